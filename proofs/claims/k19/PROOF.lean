import PyProof.Rows.All
import Wide.All
import OpenK.AllK
import Wide.FinOn
import Lean
import PyProof.EqAt
import PyProof.EqKinds
import PyProof.TupleCall
import KE.LcSums
import KE.KTryMore
import PyProof.Rows.CountFlat
import PyProof.Rows.SeqMore2
import PySem.Builtin.Int.W1All
import PyProof.StrLawsIn
import PyProof.Rows.Range3
import PySem.Challenge.RW_widewords_k19_whole_there_and_back
set_option Elab.async false
set_option linter.all false
set_option maxRecDepth 100000
set_option maxHeartbeats 0
namespace L2
open PySem PySem.Spec PyProof.Rows
abbrev Key := Sum Int Str
def keyIs : Key -> Value -> Bool
  | .inl k, v => Value.isInt k v
  | .inr x, v => Value.isStrOf x v
def keyH (w : World) : Key -> Int
  | .inl k => hashInt k
  | .inr x => hashStr w x
theorem zaK : ∀ {k : Key} {v : Value}, keyIs k v = true -> (∃ i t, k = Sum.inl i /\ v = Value.int i t) \/ (∃ x t, k = Sum.inr x /\ v = Value.str x t)
  | .inl i, v, h => by
    obtain ⟨t, e⟩ := Value.isInt_shape (k := i) (v := v) h
    exact .inl ⟨i, t, rfl, e⟩
  | .inr x, v, h => by
    obtain ⟨t, e⟩ := Value.isStrOf_shape (x := x) (v := v) h
    exact .inr ⟨x, t, rfl, e⟩
theorem zlb (i : Int) (t : Tok) : keyIs (.inl i) (.int i t) = true := by simp [keyIs, Value.isInt]
theorem zkQ (x : Str) (t : Tok) : keyIs (.inr x) (.str x t) = true := by simp [keyIs, Value.isStrOf]
theorem zpp (a b : Int) : decide ((Sum.inl a : Key) = Sum.inl b) = (a == b) := by
  by_cases e : a = b
  · subst e; simp
  · have h : ¬ (Sum.inl a : Key) = Sum.inl b := fun q => e (Sum.inl.inj q)
    rw [decide_eq_false h]
    exact (beq_eq_false_iff_ne.mpr e).symm
theorem zpx (a b : Str) : decide ((Sum.inr a : Key) = Sum.inr b) = decide (a = b) := by
  by_cases e : a = b
  · subst e; simp
  · have h : ¬ (Sum.inr a : Key) = Sum.inr b := fun q => e (Sum.inr.inj q)
    rw [decide_eq_false h, decide_eq_false e]
theorem zpU (a : Int) (b : Str) : decide ((Sum.inl a : Key) = Sum.inr b) = false := decide_eq_false (fun q => nomatch q)
theorem zp4 (a : Str) (b : Int) : decide ((Sum.inr a : Key) = Sum.inl b) = false := decide_eq_false (fun q => nomatch q)
def mixKind (prog : Program) (w : World) : PySem.KeyKind prog w Key where
  is := keyIs
  hash := keyH w
  inj := fun v a b ha hb => by
    rcases zaK ha with ⟨i, t, rfl, rfl⟩ | ⟨x, t, rfl, rfl⟩
    · rcases zaK hb with ⟨j, u, rfl, e⟩ | ⟨y, u, rfl, e⟩
      · injection e with e1 _; rw [e1]
      · exact nomatch e
    · rcases zaK hb with ⟨j, u, rfl, e⟩ | ⟨y, u, rfl, e⟩
      · exact nomatch e
      · injection e with e1 _; rw [e1]
  byValue := fun k v h => by
    rcases zaK h with ⟨i, t, rfl, rfl⟩ | ⟨x, t, rfl, rfl⟩ <;> rfl
  pyHash := fun hv h => by
    rcases zaK hv with ⟨i, t, rfl, rfl⟩ | ⟨x, t, rfl, rfl⟩
    · exact wpAny_pyHash_int h
    · exact wpAny_pyHash_str h
  eqBool := fun hu hv h => by
    rcases zaK hu with ⟨i, t, rfl, rfl⟩ | ⟨x, t, rfl, rfl⟩
    · rcases zaK hv with ⟨j, u, rfl, rfl⟩ | ⟨y, u, rfl, rfl⟩
      · rw [zpp] at h; exact wpAny_eqBool_int h
      · rw [zpU] at h; exact SeqAt.EqAt.int_str i t y u _ _ _ _ h
    · rcases zaK hv with ⟨j, u, rfl, rfl⟩ | ⟨y, u, rfl, rfl⟩
      · rw [zp4] at h; exact SeqAt.EqAt.str_int x t j u _ _ _ _ h
      · rw [zpx] at h; exact wpAny_eqBool_str h
  «strs» := fun k x t v h => by
    rcases zaK h with ⟨i, u, rfl, e⟩ | ⟨y, u, rfl, e⟩
    · exact nomatch e
    · injection e with e1 _
      subst e1
      cases v <;> rfl
theorem zja (prog : Program) (w : World) (i : Int) (t : Tok) : (mixKind prog w).is (.inl i) (.int i t) = true := zlb i t
theorem zi9 (prog : Program) (w : World) (x : Str) (t : Tok) : (mixKind prog w).is (.inr x) (.str x t) = true := zkQ x t
end L2
namespace L2
open PySem PySem.Spec PyProof.Rows
inductive V where
  | non | bl (b : Bool) | int (i : Int) | str (x : Str) | byt (b : Array UInt8) | flt (b : UInt64) | ref (a : Addr) | ty (n : String)
  deriving DecidableEq
def RelV : V -> Value -> Prop
  | .non, u => u = Value.none
  | .bl b, u => u = Value.bool b
  | .int i, u => ∃ t, u = Value.int i t
  | .str x, u => ∃ t, u = Value.str x t
  | .byt b, u => ∃ t, u = Value.bytes b t
  | .flt b, u => ∃ t, u = Value.float b t
  | .ref a, u => u = Value.ref a
  | .ty n, u => u = Value.type n
abbrev Vals : List V -> List Value -> Prop := Paired RelV
theorem Vals.length {xs : List V} {us : List Value} (r : Vals xs us) : xs.length = us.length := Paired.length r
theorem Vals.get : ∀ {xs : List V} {us : List Value} {i : Nat} {x : V}, Vals xs us -> xs[i]? = some x -> ∃ u, us[i]? = some u /\ RelV x u
  | _, _, _, _, .nil, e => by simp at e
  | _, _, 0, _, .cons r _, e => by simp at e; subst e; exact ⟨_, rfl, r⟩
  | _, _, i + 1, x, .cons _ t, e => by
    obtain ⟨u, h1, h2⟩ := Vals.get (i := i) (x := x) t (by simpa using e)
    exact ⟨u, by simpa using h1, h2⟩
theorem Vals.set {x : V} {u : Value} (r : RelV x u) : ∀ {xs : List V} {us : List Value} (i : Nat), Vals xs us -> Vals (xs.set i x) (us.set i u)
  | _, _, _, .nil => .nil
  | _, _, 0, .cons _ t => .cons r t
  | _, _, i + 1, .cons q t => .cons q (Vals.set r i t)
theorem Vals.append : ∀ {xs ys : List V} {us ws : List Value}, Vals xs us -> Vals ys ws -> Vals (xs ++ ys) (us ++ ws)
  | _, _, _, _, .nil, s => s
  | _, _, _, _, .cons r t, s => .cons r (Vals.append t s)
theorem Vals.take : ∀ {xs : List V} {us : List Value} (n : Nat), Vals xs us -> Vals (xs.take n) (us.take n)
  | _, _, 0, _ => .nil
  | _, _, _ + 1, .nil => .nil
  | _, _, n + 1, .cons r t => .cons r (Vals.take n t)
theorem Vals.drop : ∀ {xs : List V} {us : List Value} (n : Nat), Vals xs us -> Vals (xs.drop n) (us.drop n)
  | _, _, 0, r => r
  | _, _, _ + 1, .nil => .nil
  | _, _, n + 1, .cons _ t => Vals.drop n t
def RelO : Option V -> Option Value -> Prop
  | some v, some u => RelV v u
  | none, none => True
  | _, _ => False
def KV {κ : Type} : List (κ × V) -> List (κ × Value) -> Prop := Paired fun (p : κ × V) (q : κ × Value) => p.1 = q.1 /\ RelV p.2 q.2
def kV : Key -> V
  | .inl i => .int i
  | .inr x => .str x
inductive HO where
  | lst (xs : List V)
  | tup (xs : List V)
  | dK (kvs : List (Key × V)) | dT (kvs : List (List Key × V))
  | set (S : Int -> Bool) (n : Nat)
  | ins (C dx : Addr) (fs : List (Str × V))
  | own (x : Addr)
  | xd (fs : List (Str × V))
  | met (f x : Addr)
  | rng (lo hi : Int)
  | frz (o : Obj) (u : HO)
  | tbl (ps : Array Value)
  | ext (φ : Heap -> Prop)
abbrev Hp := Addr -> Option HO
def upd (H : Hp) (a : Addr) (o : HO) : Hp := fun b => if b = a then some o else H b
theorem zar {H : Hp} {a : Addr} {o : HO} : upd H a o a = some o := by unfold upd; rw [if_pos rfl]
theorem zV {H : Hp} {a b : Addr} {o : HO} (h : b ≠ a) : upd H a o b = H b := by unfold upd; rw [if_neg h]
theorem zoi {H : Hp} {a : Addr} {o u : HO} : upd (upd H a o) a u = upd H a u := by
  funext b; unfold upd; split <;> rfl
theorem zqq {H : Hp} {a b : Addr} {o u : HO} (h : H a = some o) (h' : H b = some u) (d : o ≠ u) : a ≠ b := by
  intro e; subst e; rw [h] at h'; exact d (Option.some.inj h')
theorem z7 {H : Hp} {a b : Addr} {o : HO} (h : H a = some o) (h' : H b = none) : a ≠ b := by
  intro e; subst e; rw [h] at h'; cases h'
section
variable (P : Program) (w : World)
def ObjOk (H : Hp) (h : Heap) (a : Addr) : HO -> Prop
  | .lst xs => xs.length <= sizeLine /\ ∃ (its : List Value) (n : Nat), Vals xs its /\ h.get? a = some { cls := .type "list", data := .seq its.toArray n }
  | .tup xs => xs.length <= sizeLine /\ ∃ its : List Value, Vals xs its /\ IsTup h a its.toArray
  | .dK kvs => kvs.length <= sizeLine /\ (a == sysModules) = false /\ ∃ vs, KV kvs vs /\ h.DictOf (mixKind P w) a vs
  | .dT kvs => kvs.length <= sizeLine /\ (a == sysModules) = false /\ ∃ xs : List (List Key × Addr × Value),
      Paired (fun (p : List Key × V) (q : List Key × Addr × Value) => p.1 = q.1 /\ H q.2.1 = some (.tup (p.1.map kV)) /\ RelV p.2 q.2.2) kvs xs /\
      ∃ o es ep, h.get? a = some o /\ o.ExactDict /\ o.data = .dict es ep /\ es.toList = xs.map (entryOfKey (tupleKind (mixKind P w))) /\ (xs.map (·.1)).Nodup
  | .set S n => h.SetOf (intKind P w) a S n
  | .ins C dx fs => H dx = some (.own a) /\ fs.length <= 1000 /\ dx ≠ a /\ h.get? a = some (PySem.W.instObj C dx) /\
      ∃ mA, h.Ns1 dx mA /\ (∀ f, RelO (fs.lookup f) (mA f)) /\ PySem.Within mA (fs.map (·.1))
  | .own _ => ∃ o, h.get? a = some o
  | .xd fs => ∃ mA, h.Ns1 a mA /\ ∀ f, RelO (fs.lookup f) (mA f)
  | .rng lo hi => ∃ t u v, h.get? a = some { cls := .type "range", data := .fields #[.int lo t, .int hi u, .int 1 v] }
  | .frz o u => h.get? a = some o /\ ObjOk H h a u
  | .tbl ps => h.get? a = some { cls := .none, data := .fields ps }
  | .met f x => h.get? a = some (PySem.W.methodObj (.ref f) (.ref x))
  | .ext φ => φ h /\ (∃ o, h.get? a = some o) /\ ∀ h1 h2 : Heap, φ h1 -> (∀ o, h1.get? a = some o -> h2.get? a = some o) -> φ h2
def HOk (H : Hp) (h : Heap) : Prop := ∀ a o, H a = some o -> ObjOk P w H h a o
end
section
variable {P : Program} {w : World} {H H' : Hp} {h h' : Heap} {a : Addr} {o : HO}
theorem ObjOk.lt (x : ObjOk P w H h a o) : a < h.objs.size := by
  cases o with
  | lst xs => obtain ⟨_, _, _, _, e⟩ := x; exact Heap.lt_size e
  | tup xs => obtain ⟨_, _, _, p⟩ := x; exact p.lt
  | dK kvs => obtain ⟨_, _, _, _, o, _, _, e, _⟩ := x; exact Heap.lt_size e
  | dT kvs => obtain ⟨_, _, _, _, o, _, _, e, _⟩ := x; exact Heap.lt_size e
  | set S n => obtain ⟨o, _, _, _, e, _⟩ := x; exact Heap.lt_size e
  | ins C dx fs => obtain ⟨_, _, _, e, _⟩ := x; exact Heap.lt_size e
  | own y => obtain ⟨_, e⟩ := x; exact Heap.lt_size e
  | xd fs => obtain ⟨_, ⟨_, _, _, e, _⟩, _⟩ := x; exact Heap.lt_size e
  | rng lo hi => obtain ⟨_, _, _, e⟩ := x; exact Heap.lt_size e
  | frz ob u => obtain ⟨e, _⟩ := x; exact Heap.lt_size e
  | tbl ps => exact Heap.lt_size (show h.get? a = some _ from x)
  | met f y => exact Heap.lt_size (show h.get? a = some _ from x)
  | ext φ => obtain ⟨_, ⟨_, e⟩, _⟩ := x; exact Heap.lt_size e
theorem Paired.mapP {α β : Type} {F G : α -> β -> Prop} : ∀ {l₁ : List α} {l₂ : List β}, Paired F l₁ l₂ -> (∀ a b, F a b -> G a b) -> Paired G l₁ l₂
  | _, _, .nil, _ => .nil
  | _, _, .cons r t, f => .cons (f _ _ r) (Paired.mapP t f)
theorem ObjOk.stay (x : ObjOk P w H h a o) (k : ∀ b u, (b = a \/ H b = some (.own a)) -> h.get? b = some u -> h'.get? b = some u)
    (ho : ∀ b, H b = some (.own a) -> H' b = some (.own a)) (ht : ∀ b xs, H b = some (.tup xs) -> H' b = some (.tup xs)) : ObjOk P w H' h' a o := by
  induction o with
  | lst xs => obtain ⟨z, its, n, r, e⟩ := x; exact ⟨z, its, n, r, k _ _ (.inl rfl) e⟩
  | tup xs => obtain ⟨z, its, r, ob, e, c⟩ := x; exact ⟨z, its, r, ob, k _ _ (.inl rfl) e, c⟩
  | dK kvs => obtain ⟨z, y, vs, r, ob, es, ep, e, c⟩ := x; exact ⟨z, y, vs, r, ob, es, ep, k _ _ (.inl rfl) e, c⟩
  | dT kvs =>
    obtain ⟨z, y, xs, r, ob, es, ep, e, c⟩ := x
    exact ⟨z, y, xs, Paired.mapP r fun p q z => ⟨z.1, ht _ _ z.2.1, z.2.2⟩, ob, es, ep, k _ _ (.inl rfl) e, c⟩
  | set S n => obtain ⟨ob, es, ep, t, e, c⟩ := x; exact ⟨ob, es, ep, t, k _ _ (.inl rfl) e, c⟩
  | ins C dx fs =>
    obtain ⟨d, z, ne, e, mA, ⟨od, es, ep, e2, c⟩, r⟩ := x
    exact ⟨ho _ d, z, ne, k _ _ (.inl rfl) e, mA, ⟨od, es, ep, k _ _ (.inr d) e2, c⟩, r⟩
  | own y => obtain ⟨ob, e⟩ := x; exact ⟨ob, k _ _ (.inl rfl) e⟩
  | xd fs => obtain ⟨mA, ⟨od, es, ep, e, c⟩, r⟩ := x; exact ⟨mA, ⟨od, es, ep, k _ _ (.inl rfl) e, c⟩, r⟩
  | rng lo hi => obtain ⟨t, u, v, e⟩ := x; exact ⟨t, u, v, k _ _ (.inl rfl) e⟩
  | frz ob u ih => obtain ⟨e, q⟩ := x; exact ⟨k _ _ (.inl rfl) e, ih q⟩
  | tbl ps =>
    have e : h.get? a = some { cls := .none, data := .fields ps } := x
    show h'.get? a = some { cls := .none, data := .fields ps }
    exact k a _ (.inl rfl) e
  | met f y =>
    have e : h.get? a = some (PySem.W.methodObj (.ref f) (.ref y)) := x
    show h'.get? a = some (PySem.W.methodObj (.ref f) (.ref y))
    exact k a _ (.inl rfl) e
  | ext φ => obtain ⟨p, ⟨o, e⟩, st⟩ := x; exact ⟨st _ _ p fun o q => k _ _ (.inl rfl) q, ⟨o, k _ _ (.inl rfl) e⟩, st⟩
theorem HOk.lt (x : HOk P w H h) (e : H a = some o) : a < h.objs.size := (x a o e).lt
theorem HOk.fresh (x : HOk P w H h) (e : h.objs.size <= a) : H a = none := by
  cases q : H a with
  | none => rfl
  | some u => exact absurd (Nat.lt_of_lt_of_le (x.lt q) e) (Nat.lt_irrefl _)
theorem HOk.kept (x : HOk P w H h) (k : ∀ b u, h.get? b = some u -> h'.get? b = some u) : HOk P w H h' := fun a o e =>
  (x a o e).stay (fun b u _ q => k b u q) (fun _ q => q) fun _ _ q => q
theorem HOk.laid (x : HOk P w H h) (k : ∀ b u, h.get? b = some u -> h'.get? b = some u) (hp : h.objs.size <= a) (new : ObjOk P w (upd H a o) h' a o) : HOk P w (upd H a o) h' := fun b u e => by
  have hn := x.fresh hp
  by_cases hb : b = a
  · subst hb; rw [zar] at e; cases e; exact new
  · rw [zV hb] at e
    exact (x b u e).stay (fun c v _ q => k c v q) (fun c q => by rw [zV (z7 q hn)]; exact q) fun c xs q => by rw [zV (z7 q hn)]; exact q
end
def Rd (H : Hp) (a : Addr) (u : HO) : Prop := H a = some u \/ ∃ o, H a = some (.frz o u)
theorem Rd.of {H : Hp} {a : Addr} {u : HO} (h : H a = some u) : Rd H a u := .inl h
theorem Rd.ok {P : Program} {w : World} {H : Hp} {h : Heap} {a : Addr} {u : HO} (r : Rd H a u) (x : HOk P w H h) : ObjOk P w H h a u := by
  rcases r with r | ⟨o, r⟩
  · exact x a u r
  · obtain ⟨_, q⟩ := x a _ r
    exact q
def Mut : Option HO -> Prop
  | some (.lst _) => True
  | some (.dK _) => True
  | some (.dT _) => True
  | some (.set _ _) => True
  | some (.ins _ _ _) => True
  | some (.ext _) => True
  | _ => False
section
variable {P : Program} {w : World} {H : Hp} {h h' : Heap} {x e : Addr} {o' : HO}
theorem HOk.write (ok : HOk P w H h) (mu : Mut (H x)) (he : e = x \/ H e = some (.own x)) (k : ∀ b u, b ≠ e -> h.get? b = some u -> h'.get? b = some u) (heo : ∃ u, h'.get? e = some u)
    (new : ObjOk P w (upd H x o') h' x o') : HOk P w (upd H x o') h' := fun b u q => by
  have nown : ∀ c y, H c = some (.own y) -> c ≠ x := fun c y r z => by subst z; rw [r] at mu; exact mu
  have ntup : ∀ c xs, H c = some (.tup xs) -> c ≠ x := fun c xs r z => by subst z; rw [r] at mu; exact mu
  by_cases hb : b = x
  · subst hb; rw [zar] at q; cases q; exact new
  · rw [zV hb] at q
    by_cases hbe : b = e
    · have q' : H b = some (.own x) := by
        rcases he with z | z
        · exact absurd (hbe.trans z) hb
        · rw [hbe]; exact z
      rw [q] at q'; cases q'
      obtain ⟨v, hv⟩ := heo
      exact ⟨v, by rw [hbe]; exact hv⟩
    · refine (ok b u q).stay (fun c v hc r => k c v ?_ r) (fun c r => by rw [zV (nown c b r)]; exact r) fun c xs r => by rw [zV (ntup c xs r)]; exact r
      rcases hc with rfl | hc
      · exact hbe
      · rintro rfl
        rcases he with z | z
        · exact nown c b hc z
        · rw [hc] at z; cases z; exact hb rfl
end
structure Un (fs ex : List Addr) (H H' : Hp) (h h' : Heap) : Prop where
  keep : ∀ b o, h.get? b = some o -> H b = none -> b ∉ fs -> b ∉ ex -> h'.get? b = some o
  slot : ∀ b o, h.get? b = some o -> H b = none -> b ∈ fs -> b ∉ ex -> ∃ sl, h'.get? b = some { o with slots := sl }
  free : ∀ b o, h.get? b = some o -> H b = none -> b ∉ ex -> H' b = none
  there : ∀ b o, h.get? b = some o -> b ∉ ex -> ∃ o', h'.get? b = some o'
  tups : ∀ b xs, H b = some (.tup xs) -> H' b = some (.tup xs)
  frzs : ∀ b o u, H b = some (.frz o u) -> H' b = some (.frz o u)
  tbls : ∀ b ps, H b = some (.tbl ps) -> ∃ more, H' b = some (.tbl (ps ++ more))
section
variable {fs fs' ex ex' : List Addr} {H H1 H2 : Hp} {h h1 h2 h' : Heap} {a x e : Addr} {o : HO}
theorem Un.any (u : Un fs ex H H1 h h1) {b : Addr} {ob : Obj} (q : h.get? b = some ob) (n : H b = none) (hx : b ∉ ex) : ∃ sl, h1.get? b = some { ob with slots := sl } := by
  by_cases hb : b ∈ fs
  · exact u.slot b ob q n hb hx
  · exact ⟨ob.slots, u.keep b ob q n hb hx⟩
theorem Un.kept (k : ∀ b u, h.get? b = some u -> h'.get? b = some u) : Un fs ex H H h h' :=
  ⟨fun b ob q _ _ _ => k b ob q, fun b ob q _ _ _ => ⟨ob.slots, k b ob q⟩, fun _ _ _ n _ => n, fun b ob q _ => ⟨ob, k b ob q⟩, fun _ _ q => q, fun _ _ _ q => q, fun _ ps q => ⟨#[], by rw [q]; simp⟩⟩
theorem Un.refl : Un fs ex H H h h := Un.kept fun _ _ q => q
theorem Un.laid (k : ∀ b u, h.get? b = some u -> h'.get? b = some u) (hp : h.objs.size <= a) (hn : H a = none) : Un fs ex H (upd H a o) h h' where
  keep := fun b u q _ _ _ => k b u q
  slot := fun b u q _ _ _ => ⟨u.slots, k b u q⟩
  free := fun b u q n _ => by rw [zV (Nat.ne_of_lt (Nat.lt_of_lt_of_le (Heap.lt_size q) hp))]; exact n
  there := fun b u q _ => ⟨u, k b u q⟩
  tups := fun b xs q => by rw [zV (z7 q hn)]; exact q
  frzs := fun b u xs q => by rw [zV (z7 q hn)]; exact q
  tbls := fun b ps q => ⟨#[], by rw [zV (z7 q hn), q]; simp⟩
theorem Un.write (mu : Mut (H x)) (he : e = x \/ H e = some (.own x)) (k : ∀ b u, b ≠ e -> h.get? b = some u -> h'.get? b = some u) (heo : ∃ u, h'.get? e = some u) : Un fs ex H (upd H x o) h h' := by
  have hx : ∀ b, H b = none -> b ≠ x := fun b n z => by subst z; rw [n] at mu; exact mu
  have hb : ∀ b, H b = none -> b ≠ e := fun b n z => by
    subst z
    rcases he with r | r
    · exact hx b n r
    · rw [n] at r; cases r
  have hm : ∀ b u, H b = some u -> ¬ Mut (some u) -> b ≠ x := fun b u q nm z => by subst z; rw [q] at mu; exact nm mu
  refine ⟨fun b u q n _ _ => k b u (hb b n) q, fun b u q n _ _ => ⟨u.slots, k b u (hb b n) q⟩, fun b u q n _ => by rw [zV (hx b n)]; exact n, fun b u q _ => ?_,
    fun b xs q => by rw [zV (hm b _ q fun z => z)]; exact q, fun b u xs q => by rw [zV (hm b _ q fun z => z)]; exact q, fun b ps q => ⟨#[], by rw [zV (hm b _ q fun z => z), q]; simp⟩⟩
  by_cases hbe : b = e
  · subst hbe; exact heo
  · exact ⟨u, k b u hbe q⟩
end
def trk (h : Heap) (H : Hp) : List Addr := (List.range h.objs.size).filter fun a => (H a).isSome
def hidT (h : Heap) (H : Hp) : Heap := PySem.W.hideAll h (trk h H)
theorem zlu (h : Heap) (H : Hp) : (hidT h H).objs.size = h.objs.size := PySem.W.hideAll_size _ _
theorem zmX {h : Heap} {H : Hp} {b : Addr} {o : Obj} (e : h.get? b = some o) (n : H b = none) : (hidT h H).get? b = some o :=
  PySem.W.hideAll_get _ e fun hm => by
    have q : (H b).isSome = true := (List.mem_filter.mp hm).2
    rw [n] at q; simp at q
theorem zoL {h : Heap} {H : Hp} {b : Addr} {o : Obj} (e : (hidT h H).get? b = some o) : h.get? b = some o /\ H b = none := by
  have e' : h.get? b = some o := PySem.W.of_hideAll (trk h H) e
  refine ⟨e', ?_⟩
  cases q : H b with
  | none => rfl
  | some x =>
    have hm : b ∈ trk h H := List.mem_filter.mpr ⟨List.mem_range.mpr (Heap.lt_size e'), by simp [q]⟩
    have z : (hidT h H).get? b = none := PySem.W.hideAll_none (trk h H) hm
    rw [z] at e; cases e
end L2
namespace L2
open PySem PySem.Spec PyProof.Rows
structure Mod (K : PySem.W.Frag) (mg : Str -> Option Value) (base : Heap) : Prop where
  kin : K.In base
  glob : base.Ns mainGlobals mg
  blt : ∃ mb, base.Ns builtinsNs mb /\ ∀ x : Str, x ≠ "__name__" -> mb x = bootBuiltins x
  nolimit : base.NoLimit
structure Cx where
  prog : Program
  w : World
  K : PySem.W.Frag
  mg : Str -> Option Value
  base : Heap
  A : Around
  N : List Str
  s₀ : Shared
  H₀ : Hp
  env : Env
  outer : List Env
  stack : List Env
  ex : List Addr
  fn : Str -> Bool
  calm : Bool
  pn : List (Addr × Obj)
  xe : Value -> Shared -> Prop
def frs (l : List Env) : List Addr := l.filterMap (·.frame)
abbrev Cx.fs (X : Cx) : List Addr := frs X.outer
def Vis (sc : Scope) (x : Str) : Prop := sc.names.lookup x = some .local \/ sc.names.lookup x = some .cell \/ sc.names.lookup x = some .free
def Loc (sc : Scope) (x : Str) : Prop := sc.names.lookup x = some .local \/ sc.names.lookup x = some .cell
def Look (env : Env) (h : Heap) (m : Str -> Option Value) (x : Str) (u : Value) : Prop :=
  (env.kindOf x = some .local /\ m x = some u) \/ ((env.kindOf x = some .cell \/ env.kindOf x = some .free) /\ ∃ c, env.cells.lookup x = some c /\ h.IsCell c (some u))
structure Cx.Ok (X : Cx) : Prop where
  mod : Mod X.K X.mg X.base
  kind : X.env.scope.kind = .function
  glob : X.env.globals = mainGlobals
  blt : X.env.builtins = builtinsNs
  above : X.s₀.heap.objs.size <= X.env.locals
  inj : ∀ x y c, X.env.cells.lookup x = some c -> X.env.cells.lookup y = some c -> x = y
  has : ∀ x, (X.env.kindOf x = some .cell \/ X.env.kindOf x = some .free) -> ∃ c, X.env.cells.lookup x = some c
  cab : ∀ x c, X.fn x = true -> X.env.cells.lookup x = some c -> X.s₀.heap.objs.size <= c
  hd : X.calm = true -> X.A.handled = none
  frames : X.A.frames = some X.stack
  stk : X.stack = X.outer \/ (X.stack = X.env :: X.outer /\ X.env.frame = some X.env.locals)
  exf : ∀ b ∈ X.ex, b ≠ X.env.locals /\ ∀ x c, X.env.cells.lookup x = some c -> c ≠ b
  bs : ∀ b o, X.base.get? b = some o -> X.s₀.heap.get? b = some o /\ X.H₀ b = none
  bsz : X.base.objs.size <= X.s₀.heap.objs.size
  noex : ∀ b o, X.base.get? b = some o -> b ∉ X.ex
  exfs : ∀ b ∈ X.ex, b ∉ X.fs
  funs : X.s₀.heap.FunFrames X.base X.outer
  frf : ∀ b ∈ X.fs, X.H₀ b = none
structure Inv (X : Cx) (pins : List (Addr × Obj)) (σ : List (Option V)) (H : Hp) (s : Shared) : Prop where
  ok : X.Ok
  os : s.os = X.s₀.os
  bare : AllBare s.gens
  base : Un X.fs X.ex X.H₀ H X.s₀.heap s.heap
  loc : ∃ m, s.heap.Ns X.env.locals m /\ ∀ (i : Nat) (x : Str) (v : V), X.N[i]? = some x -> σ[i]? = some (some v) -> Vis X.env.scope x -> ∃ u, RelV v u /\ Look X.env s.heap m x u
  cell : ∀ x c, X.env.cells.lookup x = some c -> ∃ v, s.heap.IsCell c v
  free : H X.env.locals = none
  freeC : ∀ x c, X.env.cells.lookup x = some c -> H c = none
  pin : ∀ p ∈ X.pn ++ pins, s.heap.get? p.1 = some p.2 /\ H p.1 = none /\ p.1 ≠ X.env.locals /\ p.1 ∉ X.fs /\ ∀ v, p.2.data ≠ .cell v
  hok : HOk X.prog X.w H s.heap
  len : σ.length = X.N.length
section
variable {X : Cx} {pins : List (Addr × Obj)} {σ : List (Option V)} {H H' : Hp} {s : Shared} {h' : Heap}
theorem Cx.Ok.nofr (ok : X.Ok) {b : Addr} {o : Obj} (e : X.base.get? b = some o) : b ∉ X.fs := fun hb => by
  have := (ok.funs.mem hb).1
  rw [e] at this; cases this
theorem Inv.bs (I : Inv X pins σ H s) : ∀ b o, X.base.get? b = some o -> s.heap.get? b = some o /\ H b = none := fun b o e =>
  ⟨I.base.keep b o (I.ok.bs b o e).1 (I.ok.bs b o e).2 (I.ok.nofr e) (I.ok.noex b o e), I.base.free b o (I.ok.bs b o e).1 (I.ok.bs b o e).2 (I.ok.noex b o e)⟩
theorem Inv.bk (I : Inv X pins σ H s) : ∀ b o, X.base.get? b = some o -> s.heap.get? b = some o := fun b o e => (I.bs b o e).1
theorem Inv.mod (I : Inv X pins σ H s) : Mod X.K X.mg X.base := I.ok.mod
theorem Inv.kIn (I : Inv X pins σ H s) : X.K.In s.heap := I.ok.mod.kin.keeps I.bk
theorem Inv.lt (I : Inv X pins σ H s) : X.env.locals < s.heap.objs.size := let ⟨_, hn, _⟩ := I.loc; hn.lt
theorem Inv.sz (I : Inv X pins σ H s) : X.s₀.heap.objs.size <= s.heap.objs.size := Nat.le_trans I.ok.above (Nat.le_of_lt I.lt)
theorem Inv.nofs (I : Inv X pins σ H s) {a : Addr} (h : s.heap.objs.size <= a) : a ∉ X.fs := fun hb => by
  obtain ⟨_, o, ho, _⟩ := I.ok.funs.mem hb
  exact absurd (Nat.lt_of_lt_of_le (Heap.lt_size ho) (Nat.le_trans I.sz h)) (Nat.lt_irrefl _)
theorem Inv.cne (I : Inv X pins σ H s) : ∀ x c, X.env.cells.lookup x = some c -> c ≠ X.env.locals := fun x c e z => by
  obtain ⟨v, o, ho, hd⟩ := I.cell x c e
  obtain ⟨m, ⟨o', es, ep, ho', hd', _⟩, _⟩ := I.loc
  rw [z, ho'] at ho; cases ho; rw [hd'] at hd; cases hd
theorem Inv.funs (I : Inv X pins σ H s) : s.heap.FunFrames X.base X.outer := by
  have all : ∀ (l : List Env), (∀ b ∈ frs l, b ∈ X.fs) -> X.s₀.heap.FunFrames X.base l -> s.heap.FunFrames X.base l := by
    intro l
    induction l with
    | nil => intro _ _; trivial
    | cons env r ih =>
      intro hs hl
      obtain ⟨hk, ⟨L, o, hf, hn, ho, hd⟩, hr⟩ := hl
      have hL : L ∈ X.fs := hs L (by unfold frs; rw [List.filterMap_cons, hf]; exact List.mem_cons_self)
      obtain ⟨sl, e⟩ := I.base.slot L o ho (I.ok.frf L hL) hL fun z => I.ok.exfs L z hL
      exact ⟨hk, ⟨L, _, hf, hn, e, hd⟩, ih (fun b hb => hs b (by unfold frs; rw [List.filterMap_cons, hf]; exact List.mem_cons_of_mem _ hb)) hr⟩
  exact all X.outer (fun _ hb => hb) I.ok.funs
theorem Inv.stack (I : Inv X pins σ H s) : s.heap.FunFrames X.base X.stack := by
  rcases I.ok.stk with e | ⟨e, hf⟩
  · rw [e]; exact I.funs
  · rw [e]
    obtain ⟨m, hn, _⟩ := I.loc
    refine .cons (by rw [I.ok.kind]; decide) hf hn ?_ I.funs
    exact Heap.get?_none_of_le (Nat.le_trans I.ok.bsz I.ok.above)
theorem Inv.stkSub (I : Inv X pins σ H s) : ∀ b ∈ frs X.stack, b ∈ X.env.locals :: X.fs := fun b hb => by
  rcases I.ok.stk with e | ⟨e, hf⟩
  · rw [e] at hb; exact List.mem_cons_of_mem _ hb
  · rw [e] at hb
    unfold frs at hb
    rw [List.filterMap_cons, hf] at hb
    exact hb
theorem Inv.stkFree (I : Inv X pins σ H s) : ∀ b ∈ frs X.stack, H b = none := fun b hb => by
  rcases List.mem_cons.mp (I.stkSub b hb) with e | hb
  · rw [e]; exact I.free
  · obtain ⟨_, o, ho, _⟩ := I.ok.funs.mem hb
    exact I.base.free b o ho (I.ok.frf b hb) fun z => I.ok.exfs b z hb
theorem Inv.step {g' : Array GenState} {t' : Nat} {d' : Drawn} {ch : List Addr} (I : Inv X pins σ H s)
    (hch : ∀ b ∈ ch, (b ∈ X.ex \/ X.s₀.heap.objs.size <= b) /\ b ≠ X.env.locals /\ (∀ x c, X.env.cells.lookup x = some c -> c ≠ b) /\ ∀ p ∈ X.pn ++ pins, p.1 ≠ b)
    (keep : ∀ b o, b ≠ X.env.locals -> b ∉ X.fs -> b ∉ ch -> s.heap.get? b = some o -> H b = none -> h'.get? b = some o)
    (slot : ∀ b o, b ≠ X.env.locals -> b ∈ X.fs -> b ∉ ch -> s.heap.get? b = some o -> H b = none -> ∃ sl, h'.get? b = some { o with slots := sl }) (free : ∀ b o, b ∉ ch -> s.heap.get? b = some o -> H b = none -> H' b = none)
    (there : ∀ b o, b ∉ ch -> s.heap.get? b = some o -> ∃ o', h'.get? b = some o')
    (tups : ∀ b xs, H b = some (.tup xs) -> H' b = some (.tup xs)) (frzs : ∀ b o u, H b = some (.frz o u) -> H' b = some (.frz o u)) (tbls : ∀ b ps, H b = some (.tbl ps) -> ∃ more, H' b = some (.tbl (ps ++ more)))
    (ns : ∀ m, s.heap.Ns X.env.locals m -> h'.Ns X.env.locals m) (hok : HOk X.prog X.w H' h') (hg : AllBare g') :
    Inv X pins σ H' { s with heap := h', gens := g', drawn := d', toks := t' } := by
  have neL : ∀ b o, X.s₀.heap.get? b = some o -> b ≠ X.env.locals := fun b o e => Nat.ne_of_lt (Nat.lt_of_lt_of_le (Heap.lt_size e) I.ok.above)
  have neC : ∀ b o, X.s₀.heap.get? b = some o -> b ∉ X.ex -> b ∉ ch := fun b o e hx hb => by
    rcases (hch b hb).1 with z | z
    · exact hx z
    · exact absurd (Nat.lt_of_lt_of_le (Heap.lt_size e) z) (Nat.lt_irrefl _)
  have cellK : ∀ x c, X.env.cells.lookup x = some c -> ∀ v, s.heap.IsCell c v -> h'.IsCell c v := fun x c e v ⟨o, ho, hd⟩ => by
    have nch : c ∉ ch := fun z => (hch c z).2.2.1 x c e rfl
    by_cases hc : c ∈ X.fs
    · obtain ⟨sl, q⟩ := slot c o (I.cne x c e) hc nch ho (I.freeC x c e)
      exact ⟨_, q, hd⟩
    · exact ⟨o, keep c o (I.cne x c e) hc nch ho (I.freeC x c e), hd⟩
  refine ⟨I.ok, I.os, hg, ⟨fun b o e n hb hx => ?_, fun b o e n hb hx => ?_, fun b o e n hx => ?_, fun b o e hx => ?_, fun b xs e => tups b xs (I.base.tups b xs e), fun b o xs e => frzs b o xs (I.base.frzs b o xs e), fun b ps e => ?_⟩, ?_, fun x c e => ?_, ?_, fun x c e => ?_, fun p hp => ?_, hok, I.len⟩
  · exact keep b o (neL b o e) hb (neC b o e hx) (I.base.keep b o e n hb hx) (I.base.free b o e n hx)
  · obtain ⟨sl, e1⟩ := I.base.slot b o e n hb hx
    obtain ⟨sl', e2⟩ := slot b _ (neL b o e) hb (neC b o e hx) e1 (I.base.free b o e n hx)
    exact ⟨sl', e2⟩
  · obtain ⟨o', e1⟩ := I.base.there b o e hx
    exact free b o' (neC b o e hx) e1 (I.base.free b o e n hx)
  · obtain ⟨o', e1⟩ := I.base.there b o e hx
    exact there b o' (neC b o e hx) e1
  · obtain ⟨m1, e1⟩ := I.base.tbls b ps e
    obtain ⟨m2, e2⟩ := tbls b _ e1
    exact ⟨m1 ++ m2, by rw [e2, Array.append_assoc]⟩
  · obtain ⟨m, hn, hl⟩ := I.loc
    refine ⟨m, ns m hn, fun i x v e1 e2 e3 => ?_⟩
    obtain ⟨u, r, l⟩ := hl i x v e1 e2 e3
    refine ⟨u, r, ?_⟩
    rcases l with l | ⟨k, c, e, z⟩
    · exact .inl l
    · exact .inr ⟨k, c, e, cellK x c e _ z⟩
  · obtain ⟨v, z⟩ := I.cell x c e
    exact ⟨v, cellK x c e v z⟩
  · obtain ⟨m, ⟨o, _, _, ho, _⟩, _⟩ := I.loc
    exact free _ o (fun z => (hch _ z).2.1 rfl) ho I.free
  · obtain ⟨v, o, ho, hd⟩ := I.cell x c e
    exact free c o (fun z => (hch c z).2.2.1 x c e rfl) ho (I.freeC x c e)
  · obtain ⟨e, n, ne, nf, d⟩ := I.pin p hp
    have nch : p.1 ∉ ch := fun z => (hch p.1 z).2.2.2 p hp rfl
    exact ⟨keep p.1 p.2 ne nf nch e n, free p.1 p.2 nch e n, ne, nf, d⟩
theorem Inv.un {t' : Nat} (I : Inv X pins σ H s) (u : Un X.fs [] H H' s.heap h') (hok : HOk X.prog X.w H' h') : Inv X pins σ H' { s with heap := h', toks := t' } := by
  obtain ⟨m, ⟨o, es, ep, ho, r⟩, _⟩ := id I.loc
  obtain ⟨sl, hL⟩ := u.any ho I.free (by simp)
  exact I.step (g' := s.gens) (d' := s.drawn) (ch := []) (fun _ z => nomatch z) (fun b o _ hb _ e n => u.keep b o e n hb (by simp)) (fun b o _ hb _ e n => u.slot b o e n hb (by simp)) (fun b o _ e n => u.free b o e n (by simp)) (fun b o _ e => u.there b o e (by simp)) u.tups u.frzs u.tbls (fun m' hm => by
    obtain ⟨o', es', ep', ho', r'⟩ := hm
    rw [ho] at ho'; cases ho'
    exact ⟨_, es', ep', hL, r'⟩) hok I.bare
theorem Inv.call {g' : Array GenState} {t' : Nat} {d' : Drawn} {ch : List Addr} (I : Inv X pins σ H s) (u : Un (frs X.stack) ch H H' s.heap h') (hok : HOk X.prog X.w H' h') (hg : AllBare g')
    (hch : ∀ b ∈ ch, (b ∈ X.ex \/ X.s₀.heap.objs.size <= b) /\ b ≠ X.env.locals /\ (∀ x c, X.env.cells.lookup x = some c -> c ≠ b) /\ ∀ p ∈ X.pn ++ pins, p.1 ≠ b) :
    Inv X pins σ H' { s with heap := h', gens := g', drawn := d', toks := t' } := by
  obtain ⟨m, ⟨o, es, ep, ho, r⟩, _⟩ := id I.loc
  obtain ⟨sl, hL⟩ := u.any ho I.free fun z => (hch _ z).2.1 rfl
  exact I.step (ch := ch) hch (fun b o hL hb hc e n => u.keep b o e n (fun z => (List.mem_cons.mp (I.stkSub b z)).elim hL hb) hc) (fun b o _ _ hc e n => u.any e n hc) (fun b o hc e n => u.free b o e n hc) (fun b o hc e => u.there b o e hc) u.tups u.frzs u.tbls (fun m' hm => by
    obtain ⟨o', es', ep', ho', r'⟩ := hm
    rw [ho] at ho'; cases ho'
    exact ⟨_, es', ep', hL, r'⟩) hok hg
theorem Inv.turned {t' : Nat} {it : Addr} (I : Inv X pins σ H s) (k : ∀ b o, b ≠ it -> s.heap.get? b = some o -> h'.get? b = some o) (hn : H it = none) (hL : it ≠ X.env.locals)
    (h1 : it ∈ X.ex \/ X.s₀.heap.objs.size <= it) (h2 : ∀ x c, X.env.cells.lookup x = some c -> c ≠ it) (h3 : ∀ p ∈ X.pn ++ pins, p.1 ≠ it) : Inv X pins σ H { s with heap := h', toks := t' } := by
  have nit : ∀ b u, H b = some u -> b ≠ it := fun b u e z => by rw [z, hn] at e; cases e
  refine I.step (g' := s.gens) (d' := s.drawn) (ch := [it]) (fun b hb => ?_) (fun b o _ _ hc e _ => k b o (fun z => hc (by simp [z])) e) (fun b o _ _ hc e _ => ⟨o.slots, k b o (fun z => hc (by simp [z])) e⟩) (fun _ _ _ _ n => n)
    (fun b o hc e => ⟨o, k b o (fun z => hc (by simp [z])) e⟩) (fun _ _ e => e) (fun _ _ _ e => e) (fun b ps e => ⟨#[], by rw [e]; simp⟩) (fun m hm => ?_) (fun b u e => ?_) I.bare
  · have e : b = it := by simpa using hb
    subst e
    exact ⟨h1, hL, h2, h3⟩
  · obtain ⟨o, es, ep, ho, r⟩ := hm
    exact ⟨o, es, ep, k _ o (Ne.symm hL) ho, r⟩
  · refine (I.hok b u e).stay (fun c v hc q => k c v ?_ q) (fun _ q => q) fun _ _ q => q
    rcases hc with z | z
    · rw [z]; exact nit b u e
    · exact nit c _ z
theorem Inv.tok (I : Inv X pins σ H s) (t : Nat) : Inv X pins σ H { s with toks := t } := I.un (h' := s.heap) (t' := t) Un.refl I.hok
theorem Inv.kept {t' : Nat} (I : Inv X pins σ H s) (k : ∀ b u, s.heap.get? b = some u -> h'.get? b = some u) : Inv X pins σ H { s with heap := h', toks := t' } := I.un (Un.kept k) (I.hok.kept k)
theorem Inv.laid {a : Addr} {o : HO} {t' : Nat} (I : Inv X pins σ H s) (k : ∀ b u, s.heap.get? b = some u -> h'.get? b = some u) (hp : s.heap.objs.size <= a) (new : ObjOk X.prog X.w (upd H a o) h' a o) :
    Inv X pins σ (upd H a o) { s with heap := h', toks := t' } := I.un (Un.laid k hp (I.hok.fresh hp)) (I.hok.laid k hp new)
theorem Inv.write {x e : Addr} {o : HO} {t' : Nat} (I : Inv X pins σ H s) (mu : Mut (H x)) (he : e = x \/ H e = some (.own x)) (k : ∀ b u, b ≠ e -> s.heap.get? b = some u -> h'.get? b = some u) (heo : ∃ u, h'.get? e = some u)
    (new : ObjOk X.prog X.w (upd H x o) h' x o) : Inv X pins σ (upd H x o) { s with heap := h', toks := t' } := I.un (Un.write mu he k heo) (I.hok.write mu he k heo new)
theorem Inv.pins_of {pins' : List (Addr × Obj)} (I : Inv X pins σ H s) (h : ∀ p ∈ pins', s.heap.get? p.1 = some p.2 /\ H p.1 = none /\ p.1 ≠ X.env.locals /\ p.1 ∉ X.fs /\ ∀ v, p.2.data ≠ .cell v) : Inv X pins' σ H s :=
  ⟨I.ok, I.os, I.bare, I.base, I.loc, I.cell, I.free, I.freeC, fun p hp => (List.mem_append.mp hp).elim (fun z => I.pin p (List.mem_append_left _ z)) (h p), I.hok, I.len⟩
theorem zjt {N : List Str} (hN : N.Nodup) {i j : Nat} {x : Str} (a : N[i]? = some x) (b : N[j]? = some x) : i = j := by
  obtain ⟨h1, e1⟩ := List.getElem?_eq_some_iff.mp a
  obtain ⟨h2, e2⟩ := List.getElem?_eq_some_iff.mp b
  exact (List.getElem_inj hN).mp (e1.trans e2.symm)
theorem zmf {M : Model} {A : Around} {E : Value -> Shared -> Prop} {i : Nat} {x : Str} {v : V} {u : Value} {Q : Unit -> Shared -> Prop} (I : Inv X pins σ H s) (hN : X.N.Nodup) (hi : X.N[i]? = some x) (hx : Loc X.env.scope x) (r : RelV v u)
    (h : ∀ s', Inv X pins (σ.set i (some v)) H s' -> (∃ a, Heap.SameBut a s.heap s'.heap /\ (a = X.env.locals \/ X.env.cells.lookup x = some a)) -> Q () s') (hf : X.fn x = true \/ X.env.scope.names.lookup x = some .local := by first | exact .inl rfl | exact .inr rfl | assumption) : wpAny M A (storeName X.env x u) Q E s := by
  obtain ⟨m, hn, hl⟩ := id I.loc
  have hcls : (X.env.scope.kind == .class || (X.env.scope.kind == .module && X.env.locals != X.env.globals)) = false := by rw [I.ok.kind]; rfl
  have hiσ : i < σ.length := by rw [I.len]; exact (List.getElem?_eq_some_iff.mp hi).1
  have cne := I.cne
  have tracked : ∀ {a : Addr} {h' : Heap}, (∃ o, s.heap.get? a = some o /\ H a = none) -> Heap.SameBut a s.heap h' -> HOk X.prog X.w H h' := fun {a h'} ha hs b ob e => by
    obtain ⟨_, _, hfree⟩ := ha
    refine (I.hok b ob e).stay (fun c w' hc q => (hs.2 c ?_).trans q) (fun _ q => q) fun _ _ q => q
    rintro rfl
    rcases hc with rfl | hc
    · rw [hfree] at e; cases e
    · rw [hfree] at hc; cases hc
  rcases hx with hk | hk
  · refine wpAny_storeName_local hk hn (fun h' hn' hs => ?_) hcls
    obtain ⟨oL, _, _, hoL, _⟩ := id hn
    refine h _ ⟨I.ok, I.os, I.bare, ⟨fun b o e n hb hx => ?_, fun b o e n hb hx => ?_, I.base.free, fun b o e hx => ?_, I.base.tups, I.base.frzs, I.base.tbls⟩, ⟨_, hn', fun j y v' e1 e2 e3 => ?_⟩, fun y c e => ?_, I.free, I.freeC, fun p hp => ?_, tracked ⟨oL, hoL, I.free⟩ hs, by simpa using I.len⟩ ⟨_, hs, .inl rfl⟩
    · exact (hs.2 b (Nat.ne_of_lt (Nat.lt_of_lt_of_le (Heap.lt_size e) I.ok.above))).trans (I.base.keep b o e n hb hx)
    · obtain ⟨sl, e1⟩ := I.base.slot b o e n hb hx
      exact ⟨sl, (hs.2 b (Nat.ne_of_lt (Nat.lt_of_lt_of_le (Heap.lt_size e) I.ok.above))).trans e1⟩
    · obtain ⟨o', e1⟩ := I.base.there b o e hx
      exact ⟨o', (hs.2 b (Nat.ne_of_lt (Nat.lt_of_lt_of_le (Heap.lt_size e) I.ok.above))).trans e1⟩
    · by_cases hj : j = i
      · subst hj
        rw [hi] at e1; cases e1
        rw [List.getElem?_set_self hiσ] at e2
        cases e2
        exact ⟨u, r, .inl ⟨hk, by simp⟩⟩
      · rw [List.getElem?_set_ne (Ne.symm hj)] at e2
        obtain ⟨u', r', q⟩ := hl j y v' e1 e2 e3
        refine ⟨u', r', ?_⟩
        rcases q with ⟨k, e⟩ | ⟨k, c, e, z⟩
        · refine .inl ⟨k, ?_⟩
          have : y ≠ x := fun e => hj (zjt hN e1 (e ▸ hi))
          simp [this, e]
        · exact .inr ⟨k, c, e, z.sameBut hs (cne y c e)⟩
    · obtain ⟨w', z⟩ := I.cell y c e
      exact ⟨w', z.sameBut hs (cne y c e)⟩
    · obtain ⟨e, n, ne, nf, d⟩ := I.pin p hp
      exact ⟨(hs.2 p.1 ne).trans e, n, ne, nf, d⟩
  · have hfn : X.fn x = true := by
      rcases hf with z | z
      · exact z
      · rw [z] at hk; cases hk
    obtain ⟨c, hc⟩ := I.ok.has x (.inl hk)
    obtain ⟨w', z⟩ := I.cell x c hc
    refine wpAny_storeName_cell I.ok.kind hk hc z (fun h' hc' hs => ?_)
    obtain ⟨oc, hoc, hocd⟩ := id z
    refine h { s with heap := h' } ⟨I.ok, I.os, I.bare, ⟨fun b o e n hb hx => ?_, fun b o e n hb hx => ?_, I.base.free, fun b o e hx => ?_, I.base.tups, I.base.frzs, I.base.tbls⟩, ⟨m, hn.sameBut hs (Ne.symm (cne x c hc)), fun j y v' e1 e2 e3 => ?_⟩, fun y c' e => ?_, I.free, I.freeC, fun p hp => ?_, tracked ⟨oc, hoc, I.freeC x c hc⟩ hs, by simpa using I.len⟩ ⟨c, hs, .inr hc⟩
    · exact (hs.2 b (Nat.ne_of_lt (Nat.lt_of_lt_of_le (Heap.lt_size e) (I.ok.cab x c hfn hc)))).trans (I.base.keep b o e n hb hx)
    · obtain ⟨sl, e1⟩ := I.base.slot b o e n hb hx
      exact ⟨sl, (hs.2 b (Nat.ne_of_lt (Nat.lt_of_lt_of_le (Heap.lt_size e) (I.ok.cab x c hfn hc)))).trans e1⟩
    · obtain ⟨o', e1⟩ := I.base.there b o e hx
      exact ⟨o', (hs.2 b (Nat.ne_of_lt (Nat.lt_of_lt_of_le (Heap.lt_size e) (I.ok.cab x c hfn hc)))).trans e1⟩
    · by_cases hj : j = i
      · subst hj
        rw [hi] at e1; cases e1
        rw [List.getElem?_set_self hiσ] at e2
        cases e2
        exact ⟨u, r, .inr ⟨.inl hk, c, hc, hc'⟩⟩
      · rw [List.getElem?_set_ne (Ne.symm hj)] at e2
        obtain ⟨u', r', q⟩ := hl j y v' e1 e2 e3
        refine ⟨u', r', ?_⟩
        rcases q with q | ⟨k, c', e, z'⟩
        · exact .inl q
        · refine .inr ⟨k, c', e, z'.sameBut hs ?_⟩
          rintro rfl
          exact hj (zjt hN e1 (I.ok.inj _ _ _ e hc ▸ hi))
    · by_cases hcc : c' = c
      · subst hcc; exact ⟨_, hc'⟩
      · obtain ⟨w2, z2⟩ := I.cell y c' e
        exact ⟨w2, z2.sameBut hs hcc⟩
    · obtain ⟨e, n, ne, nf, d⟩ := I.pin p hp
      refine ⟨(hs.2 p.1 ?_).trans e, n, ne, nf, d⟩
      intro q
      rw [q, hoc] at e
      have q' : oc = p.2 := Option.some.inj e
      exact d w' (by rw [<- q']; exact hocd)
theorem zeE {M : Model} {A : Around} {E : Value -> Shared -> Prop} {i : Nat} {x : Str} {v : V} {u : Value} {Q : Unit -> Shared -> Prop} (I : Inv X pins σ H s) (hN : X.N.Nodup) (hi : X.N[i]? = some x) (hx : Loc X.env.scope x) (r : RelV v u)
    (h : ∀ s', Inv X pins (σ.set i (some v)) H s' -> Q () s') (hf : X.fn x = true \/ X.env.scope.names.lookup x = some .local := by first | exact .inl rfl | exact .inr rfl | assumption) : wpAny M A (storeName X.env x u) Q E s :=
  zmf I hN hi hx r (fun s' I' _ => h s' I') hf
theorem Inv.call' {s' : Shared} {ch : List Addr} (I : Inv X pins σ H s) (ho : s'.os = s.os) (u : Un (frs X.stack) ch H H' s.heap s'.heap) (hok : HOk X.prog X.w H' s'.heap) (hg : AllBare s'.gens)
    (hch : ∀ b ∈ ch, (b ∈ X.ex \/ X.s₀.heap.objs.size <= b) /\ b ≠ X.env.locals /\ (∀ x c, X.env.cells.lookup x = some c -> c ≠ b) /\ ∀ p ∈ X.pn ++ pins, p.1 ≠ b) : Inv X pins σ H' s' := by
  obtain ⟨h', g', d', t', o'⟩ := s'
  have e : o' = s.os := ho
  subst e
  exact I.call (g' := g') (t' := t') (d' := d') u hok hg hch
end
abbrev XK := Value -> Option Addr -> Hp -> Prop
abbrev St := List (Option V)
abbrev VK := V -> Hp -> Prop
abbrev TE := St -> Hp -> VK -> Prop
abbrev TT := St -> Hp -> (Bool -> Hp -> Prop) -> Prop
abbrev TA := St -> Hp -> (List V -> Hp -> Prop) -> Prop
structure Ends where
  nx : St -> Hp -> Prop
  rt : VK
  bk : St -> Hp -> Prop := fun _ _ => False
  ct : St -> Hp -> Prop := fun _ _ => False
abbrev TS := Ends -> St -> Hp -> Prop
def EP (X : Cx) (pins : List (Addr × Obj)) (σ : St) (Q : VK) (u : Value) (s' : Shared) : Prop := ∃ v H', Inv X pins σ H' s' /\ RelV v u /\ Q v H'
def TP (X : Cx) (pins : List (Addr × Obj)) (σ : St) (Q : Bool -> Hp -> Prop) (b : Bool) (s' : Shared) : Prop := ∃ H', Inv X pins σ H' s' /\ Q b H'
def AP (X : Cx) (pins : List (Addr × Obj)) (σ : St) (Q : List V -> Hp -> Prop) (us : List Value) (s' : Shared) : Prop := ∃ vs H', Inv X pins σ H' s' /\ Vals vs us /\ Q vs H'
def SP (X : Cx) (pins : List (Addr × Obj)) (D : Ends) (f : Flow) (s' : Shared) : Prop :=
  match f with
  | .next => ∃ σ' H', Inv X pins σ' H' s' /\ D.nx σ' H'
  | .brk => ∃ σ' H', Inv X pins σ' H' s' /\ D.bk σ' H'
  | .cont => ∃ σ' H', Inv X pins σ' H' s' /\ D.ct σ' H'
  | .ret u => ∃ v σ' H', Inv X pins σ' H' s' /\ RelV v u /\ D.rt v H'
def PE (X : Cx) (e : Expr) (t : TE) : Prop :=
  ∀ (pins : List (Addr × Obj)) (s : Shared) (σ : St) (H : Hp) (Q : VK), Inv X pins σ H s -> t σ H Q -> wpAny (model X.prog X.w) X.A (eval e X.env) (EP X pins σ Q) X.xe s
def PT (X : Cx) (e : Expr) (t : TT) : Prop :=
  ∀ (pins : List (Addr × Obj)) (s : Shared) (σ : St) (H : Hp) (Q : Bool -> Hp -> Prop), Inv X pins σ H s -> t σ H Q -> wpAny (model X.prog X.w) X.A (isTrue e X.env (eval e X.env)) (TP X pins σ Q) X.xe s
def PW (X : Cx) (e : Expr) (t : TT) : Prop :=
  ∀ (whole : Sem Value) (pins : List (Addr × Obj)) (s : Shared) (σ : St) (H : Hp) (Q : Bool -> Hp -> Prop), Inv X pins σ H s -> t σ H Q -> wpAny (model X.prog X.w) X.A (isTrue e X.env whole) (TP X pins σ Q) X.xe s
theorem PW.pt {X : Cx} {e : Expr} {t : TT} (h : PW X e t) : PT X e t := h _
def PA (X : Cx) (es : List Expr) (t : TA) : Prop :=
  ∀ (pos : Pos) (pins : List (Addr × Obj)) (s : Shared) (σ : St) (H : Hp) (Q : List V -> Hp -> Prop), Inv X pins σ H s -> t σ H Q -> wpAny (model X.prog X.w) X.A (spliced (backTo pos (starEach es X.env))) (AP X pins σ Q) X.xe s
def PS (X : Cx) (st : Stmt) (t : TS) : Prop :=
  ∀ (pins : List (Addr × Obj)) (s : Shared) (σ : St) (H : Hp) (D : Ends), Inv X pins σ H s -> t D σ H -> wpAny (model X.prog X.w) X.A (exec st X.env) (SP X pins D) X.xe s
def PSs (X : Cx) (st : List Stmt) (t : TS) : Prop :=
  ∀ (pins : List (Addr × Obj)) (s : Shared) (σ : St) (H : Hp) (D : Ends), Inv X pins σ H s -> t D σ H -> wpAny (model X.prog X.w) X.A (execs st X.env) (SP X pins D) X.xe s
theorem thn {α : Type} {t : Sem α} {Q Q' : α -> Shared -> Prop} {M : Model} {A : Around} {E : Value -> Shared -> Prop} {s : Shared} (h : wpAny M A t Q E s) (hQ : ∀ a s, Q a s -> Q' a s) : wpAny M A t Q' E s := wpAny_mono h hQ fun _ _ x => x
end L2
namespace L2
open PySem PySem.Spec PyProof.Rows
section
variable {X : Cx}
theorem bin {a b : Expr} {ta tb : TE} (ha : PE X a ta) (hb : PE X b tb) {pins : List (Addr × Obj)} {s : Shared} {σ : St} {H : Hp} {R : V -> V -> Hp -> Prop} (I : Inv X pins σ H s) (h : ta σ H fun x H1 => tb σ H1 fun y H2 => R x y H2)
    {α : Type} {Q : α -> Shared -> Prop} {f : Value -> Value -> Sem α}
    (hf : ∀ v u s2 x y H2, Inv X pins σ H2 s2 -> RelV x v -> RelV y u -> R x y H2 -> wpAny (model X.prog X.w) X.A (f v u) Q X.xe s2) :
    wpAny (model X.prog X.w) X.A (eval a X.env) (fun v s₁ => wpAny (model X.prog X.w) X.A (eval b X.env) (fun u s₂ => wpAny (model X.prog X.w) X.A (f v u) Q X.xe s₂) X.xe s₁) X.xe s := by
  refine thn (ha pins s σ H _ I h) fun v s1 ⟨x, H1, I1, r1, q1⟩ => ?_
  refine thn (hb pins s1 σ H1 _ I1 q1) fun u s2 ⟨y, H2, I2, r2, q2⟩ => ?_
  exact hf v u s2 x y H2 I2 r1 r2 q2
def tVar (i : Nat) : TE := fun σ H Q => ∃ v, σ[i]? = some (some v) /\ Q v H
def tC (v : V) : TE := fun _ H Q => Q v H
theorem zpo {i : Nat} {x : Str} {pos : Pos} (hN : X.N[i]? = some x) (hv : Vis X.env.scope x) (hd : (x == ("__debug__" : Str)) = false := by decide) (hcd : (x == ("__classdict__" : Str)) = false := by decide) : PE X (.Name x pos) (tVar i) := by
  intro pins s σ H Q I h
  obtain ⟨v, e, h⟩ := h
  obtain ⟨m, hn, hl⟩ := I.loc
  obtain ⟨u, r, l⟩ := hl i x v hN e hv
  have fin : EP X pins σ Q u s := ⟨v, H, I, r, h⟩
  rcases l with ⟨hk, hm⟩ | ⟨hk, c, hc, hcell⟩
  · exact wpAny_Name (wpAny_loadName_local I.ok.kind hk hn hm fin) hd
  · rcases hk with hk | hk
    · exact wpAny_Name (wpAny_loadName_cell I.ok.kind hk hc hcell fin) hd
    · exact wpAny_Name (wpAny_loadName_free I.ok.kind hk hc hcell fin hcd) hd
theorem pe_int {i j pos} : PE X (.Constant (.int i) j pos) (tC (.int i)) := fun _ _ _ H _ I h => wpAny_Constant_int ⟨.int i, H, I.tok _, ⟨_, rfl⟩, h⟩
theorem pe_bl {b j pos} : PE X (.Constant (.bool b) j pos) (tC (.bl b)) := fun _ _ _ H _ I h => Constant_bool ⟨.bl b, H, I, rfl, h⟩
theorem pe_non {j pos} : PE X (.Constant .none j pos) (tC .non) := fun _ _ _ H _ I h => Constant_none ⟨.non, H, I, rfl, h⟩
theorem pe_str {x j pos} : PE X (.Constant (.str x) j pos) (tC (.str x)) := fun _ _ _ H _ I h => Calls.Constant_str ⟨.str x, H, I.tok _, ⟨_, rfl⟩, h⟩
def Gl (X : Cx) (x : Str) : Prop := X.env.kindOf x = some .globalImplicit
theorem zhj {E : Value -> Shared -> Prop} {pins : List (Addr × Obj)} {s : Shared} {σ : St} {H : Hp} {x : Str} {u : Value} {pos : Pos} {Q : Value -> Shared -> Prop} (I : Inv X pins σ H s) (hg : Gl X x) (hm : X.mg x = some u) (h : Q u s)
    (hd : (x == ("__debug__" : Str)) = false := by decide) : wpAny (model X.prog X.w) X.A (eval (.Name x pos) X.env) Q E s :=
  Calls.Name_function_global I.ok.kind hg (Calls.loadGlobal_global (by rw [I.ok.glob]; exact I.mod.glob.keeps I.bk) hm h) hd
theorem zg5 {E : Value -> Shared -> Prop} {pins : List (Addr × Obj)} {s : Shared} {σ : St} {H : Hp} {x : Str} {u : Value} {pos : Pos} {Q : Value -> Shared -> Prop} (I : Inv X pins σ H s) (hg : Gl X x) (hm : X.mg x = none) (hv : bootBuiltins x = some u) (h : Q u s)
    (hn : x ≠ "__name__" := by decide) (hd : (x == ("__debug__" : Str)) = false := by decide) : wpAny (model X.prog X.w) X.A (eval (.Name x pos) X.env) Q E s := by
  obtain ⟨mb, h1, h2⟩ := I.mod.blt
  exact Calls.Name_function_global I.ok.kind hg (Calls.loadGlobal_builtin (by rw [I.ok.glob]; exact I.mod.glob.keeps I.bk) hm (by rw [I.ok.blt]; exact h1.keeps I.bk) ((h2 x hn).trans hv) h) hd
theorem zoy {x : Str} {v : V} {u : Value} {pos : Pos} (hg : Gl X x) (hm : X.mg x = some u) (r : RelV v u) (hd : (x == ("__debug__" : Str)) = false := by decide) : PE X (.Name x pos) (tC v) :=
  fun _ _ _ H _ I h => zhj I hg hm ⟨v, H, I, r, h⟩ hd
theorem zot {x : Str} {v : V} {u : Value} {pos : Pos} (hg : Gl X x) (hm : X.mg x = none) (hv : bootBuiltins x = some u) (r : RelV v u) (hn : x ≠ "__name__" := by decide) (hd : (x == ("__debug__" : Str)) = false := by decide) : PE X (.Name x pos) (tC v) :=
  fun _ _ _ H _ I h => zg5 I hg hm hv ⟨v, H, I, r, h⟩ hn hd
variable {a b : Expr} {ta tb : TE} {pos : Pos}
variable {tA tB' : TT} {rest : List Expr}
def tAnd (t u : TT) : TT := fun σ H Q => t σ H fun c H1 => if c = true then u σ H1 Q else Q false H1
def tOr (t u : TT) : TT := fun σ H Q => t σ H fun c H1 => if c = true then Q true H1 else u σ H1 Q
def tNot (t : TT) : TT := fun σ H Q => t σ H fun c H1 => Q (!c) H1
theorem zoW (ha : PT X a tA) : PW X (.BoolOp .And [a] pos) tA := by
  intro wh pins s σ H Q I h
  refine isTrue_and (thn (ha pins s σ H Q I h) fun c s1 e => ?_)
  cases c with
  | true => exact isTrue_and_nil e
  | false => exact e
theorem zqe (ha : PT X a tA) : PW X (.BoolOp .Or [a] pos) tA := by
  intro wh pins s σ H Q I h
  refine isTrue_or (thn (ha pins s σ H Q I h) fun c s1 e => ?_)
  cases c with
  | false => exact isTrue_or_nil e
  | true => exact e
theorem zpt (ha : PT X a tA) (hb : PW X (.BoolOp .And (b :: rest) pos) tB') : PW X (.BoolOp .And (a :: b :: rest) pos) (tAnd tA tB') := by
  intro wh pins s σ H Q I h
  refine isTrue_and (thn (ha pins s σ H _ I h) fun c s1 ⟨H1, I1, q1⟩ => ?_)
  cases c with
  | true => exact hb wh pins s1 σ H1 Q I1 q1
  | false => exact ⟨H1, I1, q1⟩
theorem zqt (ha : PT X a tA) (hb : PW X (.BoolOp .Or (b :: rest) pos) tB') : PW X (.BoolOp .Or (a :: b :: rest) pos) (tOr tA tB') := by
  intro wh pins s σ H Q I h
  refine isTrue_or (thn (ha pins s σ H _ I h) fun c s1 ⟨H1, I1, q1⟩ => ?_)
  cases c with
  | true => exact ⟨H1, I1, q1⟩
  | false => exact hb wh pins s1 σ H1 Q I1 q1
theorem zpS (ha : PT X a tA) : PT X (.UnaryOp .Not a pos) (tNot tA) := by
  intro pins s σ H Q I h
  exact isTrue_not (ha pins s σ H (fun c H1 => Q (!c) H1) I h)
def tAndV (ta tb : TE) : TE := fun σ H Q => ta σ H fun x H1 => ∃ c, x = .bl c /\ if c = true then tb σ H1 Q else Q (.bl false) H1
def tOrV (ta tb : TE) : TE := fun σ H Q => ta σ H fun x H1 => ∃ c, x = .bl c /\ if c = true then Q (.bl true) H1 else tb σ H1 Q
def tNotV (ta : TE) : TE := fun σ H Q => ta σ H fun x H1 => ∃ c, x = .bl c /\ Q (.bl (!c)) H1
theorem zpb {op} {t : TE} (h : PE X a t) : PE X (.BoolOp op [a] pos) t := fun pins s σ H Q I hw => BoolOp_one (h pins s σ H Q I hw)
theorem zpM (ha : PE X a ta) (hb : PE X (.BoolOp .And (b :: rest) pos) tb) : PE X (.BoolOp .And (a :: b :: rest) pos) (tAndV ta tb) := by
  intro pins s σ H Q I h
  refine BoolOp_and (thn (ha pins s σ H _ I h) fun v s1 ⟨x, H1, I1, r1, q1⟩ => ?_)
  obtain ⟨c, rfl, q1⟩ := q1
  cases r1
  refine wpAny_truthy_bool ?_
  cases c with
  | true => exact hb pins s1 σ H1 Q I1 q1
  | false => exact ⟨.bl false, H1, I1, rfl, q1⟩
theorem zqk (ha : PE X a ta) (hb : PE X (.BoolOp .Or (b :: rest) pos) tb) : PE X (.BoolOp .Or (a :: b :: rest) pos) (tOrV ta tb) := by
  intro pins s σ H Q I h
  refine BoolOp_or (thn (ha pins s σ H _ I h) fun v s1 ⟨x, H1, I1, r1, q1⟩ => ?_)
  obtain ⟨c, rfl, q1⟩ := q1
  cases r1
  refine wpAny_truthy_bool ?_
  cases c with
  | false => exact hb pins s1 σ H1 Q I1 q1
  | true => exact ⟨.bl true, H1, I1, rfl, q1⟩
theorem zpE (ha : PE X a ta) : PE X (.UnaryOp .Not a pos) (tNotV ta) := by
  intro pins s σ H Q I h
  refine UnaryOp_ (thn (ha pins s σ H _ I h) fun v s1 ⟨x, H1, I1, r1, q1⟩ => ?_)
  obtain ⟨c, rfl, q1⟩ := q1
  cases r1
  exact not_of (wpAny_truthy_bool ⟨.bl (!c), H1, I1, rfl, q1⟩)
end
end L2
namespace L2
open PySem PySem.Spec PyProof.Rows
def SqL (K : PySem.W.Frag) (H : Hp) (a : Addr) (xs : List V) : Prop :=
  Rd H a (.lst xs) \/
    ∃ (o : Obj) (its : Array Value) (n : Nat), K.lookup a = some o /\ o.cls = .type "list" /\ o.dict = none /\ o.data = .seq its n /\ its.size <= sizeLine /\ Vals xs its.toList
def SqT (K : PySem.W.Frag) (H : Hp) (a : Addr) (xs : List V) : Prop :=
  Rd H a (.tup xs) \/
    ∃ (o : Obj) (its : Array Value) (n : Nat), K.lookup a = some o /\ o.cls = .type "tuple" /\ o.data = .seq its n /\ its.size <= sizeLine /\ Vals xs its.toList
def absV : Value -> Option V
  | .none => some .non
  | .bool b => some (.bl b)
  | .int i _ => some (.int i)
  | .str x _ => some (.str x)
  | .bytes b _ => some (.byt b)
  | .float b _ => some (.flt b)
  | .ref a => some (.ref a)
  | .type n => some (.ty n)
  | _ => none
theorem RelV.abs {x : V} {u : Value} (r : RelV x u) : absV u = some x := by
  cases x with
  | non => cases r; rfl
  | bl _ => cases r; rfl
  | int _ => obtain ⟨t, rfl⟩ := r; rfl
  | str _ => obtain ⟨t, rfl⟩ := r; rfl
  | byt _ => obtain ⟨t, rfl⟩ := r; rfl
  | flt _ => obtain ⟨t, rfl⟩ := r; rfl
  | ref _ => cases r; rfl
  | ty _ => cases r; rfl
theorem RelV.inj {x y : V} {u : Value} (r : RelV x u) (q : RelV y u) : x = y := Option.some.inj (r.abs.symm.trans q.abs)
theorem Vals.inj : ∀ {xs ys : List V} {us : List Value}, Vals xs us -> Vals ys us -> xs = ys
  | _, _, _, .nil, .nil => rfl
  | _, _, _, .cons r t, .cons r' t' => by rw [r.inj r', Vals.inj t t']
section
variable {X : Cx} {pins : List (Addr × Obj)} {σ : St} {H : Hp} {s : Shared} {a : Addr} {xs ys : List V}
theorem SqL.of {K : PySem.W.Frag} (h : H a = some (.lst xs)) : SqL K H a xs := .inl (.inl h)
theorem Inv.list (I : Inv X pins σ H s) (h : SqL X.K H a xs) : ∃ its : List Value, Vals xs its /\ PlainL s.heap a its.toArray /\ xs.length <= sizeLine := by
  rcases h with h | ⟨o, its, n, hk, hc, hd, hs, hz, r⟩
  · obtain ⟨z, its, n, r, e⟩ := h.ok I.hok
    exact ⟨its, r, ⟨_, n, e, rfl, rfl, rfl⟩, z⟩
  · refine ⟨its.toList, r, ⟨o, n, I.kIn a o hk, hc, hd, by simpa using hs⟩, ?_⟩
    have e := r.length
    simp only [Array.length_toList] at e
    omega
theorem Inv.tuple (I : Inv X pins σ H s) (h : SqT X.K H a xs) : ∃ its : List Value, Vals xs its /\ IsTup s.heap a its.toArray /\ xs.length <= sizeLine := by
  rcases h with h | ⟨o, its, n, hk, hc, hs, hz, r⟩
  · obtain ⟨z, its, r, p⟩ := h.ok I.hok
    exact ⟨its, r, p, z⟩
  · refine ⟨its.toList, r, ⟨o, I.kIn a o hk, hc, n, by simpa using hs⟩, ?_⟩
    have e := r.length
    simp only [Array.length_toList] at e
    omega
theorem Inv.list_inj (I : Inv X pins σ H s) (h : SqL X.K H a xs) (h' : SqL X.K H a ys) : xs = ys := by
  obtain ⟨its, r, ⟨o, n, e, _, _, d⟩, _⟩ := I.list h
  obtain ⟨its', r', ⟨o', n', e', _, _, d'⟩, _⟩ := I.list h'
  rw [e] at e'; cases e'
  rw [d] at d'
  injection d' with d1 _
  have : its = its' := by simpa using congrArg Array.toList d1
  subst this
  exact r.inj r'
theorem Inv.tuple_inj (I : Inv X pins σ H s) (h : SqT X.K H a xs) (h' : SqT X.K H a ys) : xs = ys := by
  obtain ⟨its, r, ⟨o, e, _, n, d⟩, _⟩ := I.tuple h
  obtain ⟨its', r', ⟨o', e', _, n', d'⟩, _⟩ := I.tuple h'
  rw [e] at e'; cases e'
  rw [d] at d'
  injection d' with d1 _
  have : its = its' := by simpa using congrArg Array.toList d1
  subst this
  exact r.inj r'
end
section
variable {X : Cx} {pins : List (Addr × Obj)} {σ : St} {H : Hp} {s : Shared} {E : Value -> Shared -> Prop}
end
section
variable {X : Cx} {st : Stmt} {rest : List Stmt} {t u : TS} {e : Expr} {te : TE} {pos : Pos}
def tNext : TS := fun D σ H => D.nx σ H
def tSeq (t u : TS) : TS := fun D σ H => t { D with nx := u D } σ H
theorem pss_nil : PSs X [] tNext := fun _ _ σ H _ I h => wpAny_execs_nil ⟨σ, H, I, h⟩
theorem znz (h1 : PS X st t) (h2 : PSs X rest u) : PSs X (st :: rest) (tSeq t u) := by
  intro pins s σ H D I h
  refine wpAny_execs_cons (thn (h1 pins s σ H { D with nx := u D } I h) fun f s1 q => ?_)
  cases f with
  | next =>
    obtain ⟨σ', H', I', q⟩ := q
    exact h2 pins s1 σ' H' D I' q
  | ret v => exact q
  | brk => exact q
  | cont => exact q
theorem Inv.quiet {pins : List (Addr × Obj)} {σ : St} {H : Hp} {s : Shared} (I : Inv X pins σ H s) : interactive X.env = false := by simp [interactive, I.ok.kind]
def tDrop (te : TE) : TS := fun D σ H => te σ H fun _ H1 => D.nx σ H1
theorem zoV (he : PE X e te) (hs : swapsWith e none pos.line X.env = pure false := by rfl) : PS X (.Expr e pos) (tDrop te) := by
  intro pins s σ H D I h
  exact wpAny_Expr_any (thn (he pins s σ H _ I h) fun v s1 ⟨x, H1, I1, r1, q1⟩ => ⟨σ, H1, I1, q1⟩) I.quiet hs
def tRet (te : TE) : TS := fun D σ H => te σ H D.rt
theorem zpC (he : PE X e te) : PS X (.Return (some e) pos) (tRet te) := by
  intro pins s σ H D I h
  exact wpAny_Return_some (thn (he pins s σ H _ I h) fun v s1 ⟨x, H1, I1, r1, q1⟩ => ⟨x, σ, H1, I1, r1, q1⟩)
def tIfS (c : TT) (t u : TS) : TS := fun D σ H => c σ H fun b H1 => if b = true then t D σ H1 else u D σ H1
theorem zqy {c : Expr} {a b : List Stmt} {tc : TT} (hc : PT X c tc) (ha : PSs X a t) (hb : PSs X b u) : PS X (.If c a b pos) (tIfS tc t u) := by
  intro pins s σ H D I h
  refine wpAny_If (thn (hc pins s σ H _ I h) fun d s1 ⟨H1, I1, q1⟩ => ?_)
  cases d with
  | true => exact ha pins s1 σ H1 D I1 q1
  | false => exact hb pins s1 σ H1 D I1 q1
end
abbrev TG := V -> St -> Hp -> (St -> Hp -> Prop) -> Prop
abbrev TGs := List V -> St -> Hp -> (St -> Hp -> Prop) -> Prop
def PG (X : Cx) (target : Expr) (t : TG) : Prop :=
  ∀ (pins : List (Addr × Obj)) (s : Shared) (σ : St) (H : Hp) (v : V) (u : Value) (Q : St -> Hp -> Prop), Inv X pins σ H s -> RelV v u -> t v σ H Q ->
    wpAny (model X.prog X.w) X.A (assign target X.env u) (fun _ s' => ∃ σ' H', Inv X pins σ' H' s' /\ Q σ' H') X.xe s
def PGs (X : Cx) (ts : List Expr) (t : TGs) : Prop :=
  ∀ (pins : List (Addr × Obj)) (s : Shared) (σ : St) (H : Hp) (vs : List V) (us : List Value) (Q : St -> Hp -> Prop), Inv X pins σ H s -> Vals vs us -> t vs σ H Q ->
    wpAny (model X.prog X.w) X.A (assignInOrder ((assignEach ts X.env).map (·.2)) us) (fun _ s' => ∃ σ' H', Inv X pins σ' H' s' /\ Q σ' H') X.xe s
abbrev TSet := V -> V -> V -> Hp -> (Hp -> Prop) -> Prop
def PSet (X : Cx) (t : TSet) : Prop :=
  ∀ (pins : List (Addr × Obj)) (s : Shared) (σ : St) (H : Hp) (o i v : V) (ov iv u : Value) (Q : Hp -> Prop), Inv X pins σ H s -> RelV o ov -> RelV i iv -> RelV v u -> t o i v H Q ->
    wpAny (model X.prog X.w) X.A (setItem ov iv u) (fun _ s' => ∃ H', Inv X pins σ H' s' /\ Q H') X.xe s
abbrev TIp := V -> V -> Hp -> VK -> Prop
def PIp (X : Cx) (op : Operator) (t : TIp) : Prop :=
  ∀ (pins : List (Addr × Obj)) (s : Shared) (σ : St) (H : Hp) (x y : V) (v u : Value) (Q : VK), Inv X pins σ H s -> RelV x v -> RelV y u -> t x y H Q ->
    wpAny (model X.prog X.w) X.A (inplaceOp op v u) (EP X pins σ Q) X.xe s
section
variable {X : Cx} {pos : Pos}
def gName (i : Nat) : TG := fun v σ H Q => Q (σ.set i (some v)) H
theorem zkR {i : Nat} {x : Str} (hN : X.N.Nodup) (hi : X.N[i]? = some x) (hx : Loc X.env.scope x) (hf : X.fn x = true \/ X.env.scope.names.lookup x = some .local := by first | exact .inl rfl | exact .inr rfl | assumption) : PG X (.Name x pos) (gName i) := by
  intro pins s σ H v u Q I r h
  exact wpAny_assign_Name (zeE I hN hi hx r (fun s' I' => ⟨_, H, I', h⟩) hf)
def gNil : TGs := fun vs σ H Q => vs = [] /\ Q σ H
def gCons (t : TG) (u : TGs) : TGs := fun vs σ H Q => ∃ v r, vs = v :: r /\ t v σ H fun σ' H' => u r σ' H' Q
theorem pgs_nil : PGs X [] gNil := by
  intro pins s σ H vs us Q I r h
  obtain ⟨e, h⟩ := h
  subst e
  cases r
  exact assignInOrder_nil ⟨σ, H, I, h⟩
theorem znC {e : Expr} {es : List Expr} {t : TG} {u : TGs} (h1 : PG X e t) (h2 : PGs X es u)
    (hs : (assignEach (e :: es) X.env).map (·.2) = assign e X.env :: (assignEach es X.env).map (·.2) := by rfl) : PGs X (e :: es) (gCons t u) := by
  intro pins s σ H vs us Q I r h
  obtain ⟨v, vr, e1, h⟩ := h
  subst e1
  cases r with
  | cons r rr =>
    rw [hs]
    refine assignInOrder_cons (thn (h1 pins s σ H _ _ _ I r h) fun _ s1 ⟨σ1, H1, I1, q1⟩ => ?_)
    exact h2 pins s1 σ1 H1 _ _ Q I1 rr q1
def gTup (K : PySem.W.Frag) (n : Nat) (t : TGs) : TG := fun v σ H Q => ∃ a xs, v = .ref a /\ SqT K H a xs /\ xs.length = n /\ t xs σ H Q
theorem zpT {es : List Expr} {k : Nat} {t : TGs} {n : Nat} (hc : X.calm = true) (h : PGs X es t)
    (hn : (assignEach es X.env).length = n := by rfl) (hst : (assignEach es X.env).findIdx? (·.1) = none := by rfl) : PG X (.Tuple es k pos) (gTup X.K n t) := by
  intro pins s σ H v u Q I r hw
  obtain ⟨a, xs, e1, hq, hl, hw⟩ := hw
  subst e1
  cases r
  obtain ⟨its, rv, ht, hz⟩ := I.tuple hq
  refine assign_Tuple_tuple (I.ok.hd hc) ht (by simp [hn, <- hl, rv.length]) hst fun h' hx => ?_
  have I1 : Inv X pins σ H { s with heap := h' } := I.kept (t' := s.toks) fun b o e => hx b o (Nat.ne_of_lt (Heap.lt_size e)) e
  exact h pins _ σ H xs _ Q I1 (by simpa using rv) hw
def gSub (to ti : TE) (t : TSet) : TG := fun v σ H Q => to σ H fun o H1 => ti σ H1 fun i H2 => t o i v H2 fun H3 => Q σ H3
theorem zfU {o i : Expr} {to ti : TE} {t : TSet} (ho : PE X o to) (hi : PE X i ti) (hs : PSet X t)
    (ha : ∀ v, assign (.Subscript o i pos) X.env v = (do
      let ov <- holding [v] (eval o X.env)
      let iv <- holding [v, ov] (eval i X.env)
      standAt pos
      holding [v, ov, iv] (setItem ov iv v)
      release [v, ov, iv] []) := by intro _; rfl) : PG X (.Subscript o i pos) (gSub to ti t) := by
  intro pins s σ H v u Q I r h
  rw [ha]
  refine wpAny_bind (wpAny_holding (thn (ho pins s σ H _ I h) fun ov s1 ⟨x, H1, I1, r1, q1⟩ => ?_))
  refine wpAny_bind (wpAny_holding (thn (hi pins s1 σ H1 _ I1 q1) fun iv s2 ⟨y, H2, I2, r2, q2⟩ => ?_))
  refine wpAny_bind (wpAny_standAt (wpAny_bind (wpAny_holding (thn (hs pins s2 σ H2 x y v ov iv u _ I2 r1 r2 r q2) fun _ s3 ⟨H3, I3, q3⟩ => ?_))))
  exact wpAny_release ⟨σ, H3, I3, q3⟩
def tAsg (te : TE) (g : TG) : TS := fun D σ H => te σ H fun x H1 => g x σ H1 D.nx
theorem zn0 {tg e : Expr} {te : TE} {g : TG} (he : PE X e te) (hg : PG X tg g) (hs : swapsWithSole [tg] e pos.line X.env = pure false := by rfl) (hw : swappedStores [tg] e X.env = pure none := by rfl)
    (h1 : (assignEach [tg] X.env).map (·.2) = [assign tg X.env] := by rfl) : PS X (.Assign [tg] e pos) (tAsg te g) := by
  intro pins s σ H D I h
  refine wpAny_Assign_stores (thn (he pins s σ H _ I h) fun v s1 ⟨x, H1, I1, r1, q1⟩ => ?_) hs hw
  rw [h1]
  exact thn (hg pins s1 σ H1 x v _ I1 r1 q1) fun _ s2 q => q
theorem zqc {i : Nat} {x : Str} {e : Expr} {te : TE} {pos' : Pos} (hN : X.N.Nodup) (hi : X.N[i]? = some x) (hx : Loc X.env.scope x) (he : PE X e te) (hs : swapsWith e (some (.Name x pos')) pos.line X.env = pure false := by rfl) (hf : X.fn x = true \/ X.env.scope.names.lookup x = some .local := by first | exact .inl rfl | exact .inr rfl | assumption) :
    PS X (.Assign [.Name x pos'] e pos) (tAsg te (gName i)) := by
  intro pins s σ H D I h
  refine wpAny_Assign_Name (thn (he pins s σ H _ I h) fun v s1 ⟨y, H1, I1, r1, q1⟩ => ?_) hs
  exact zeE I1 hN hi hx r1 (fun s2 I2 => ⟨_, H1, I2, q1⟩) hf
def tPar (i j : Nat) (ta : TA) : TS := fun D σ H => ta σ H fun vs H1 => ∃ v w, vs = [v, w] /\ D.nx ((σ.set i (some v)).set j (some w)) H1
theorem zpq {i j : Nat} {x y : Str} {a b : Expr} {ta : TA} {px py pt : Pos} {kt k2 pt2} (hc : X.calm = true) (hN : X.N.Nodup) (hi : X.N[i]? = some x) (hj : X.N[j]? = some y) (hij : i ≠ j)
    (hx : X.env.scope.names.lookup x = some .local) (hy : X.env.scope.names.lookup y = some .local) (ha : PA X [a, b] ta)
    (hw : swappedStores [.Tuple [.Name x px, .Name y py] kt pt] (.Tuple [a, b] k2 pt2) X.env = pure (some [x, y]))
    (hs : swapsWithSole [.Tuple [.Name x px, .Name y py] kt pt] (.Tuple [a, b] k2 pt2) pos.line X.env = pure false := by rfl) :
    PS X (.Assign [.Tuple [.Name x px, .Name y py] kt pt] (.Tuple [a, b] k2 pt2) pos) (tPar i j ta) := by
  intro pins s σ H D I h
  rw [exec_Assign_arm]
  refine wpAny_bind (wpAny_standAt ?_)
  rw [hs]
  refine wpAny_bind (wpAny_pure ?_)
  rw [if_neg (by decide)]
  refine wpAny_bind (Tuple_ (thn (ha _ pins s σ H _ I h) fun us s1 ⟨vs, H1, I1, r1, q1⟩ => ?_))
  obtain ⟨v, w, e1, q1⟩ := q1
  subst e1
  obtain ⟨u1, u2, rfl, rv, rw'⟩ : ∃ u1 u2, us = [u1, u2] /\ RelV v u1 /\ RelV w u2 := by
    cases r1 with
    | cons p q =>
      cases q with
      | cons p' q' =>
        cases q'
        exact ⟨_, _, rfl, p, p'⟩
  refine wpAny_newObj_type ?_ (by show 2 <= sizeLine; decide)
  have I2 : Inv X pins σ H1 { s1 with heap := s1.heap.push { cls := .type "tuple", data := .seq [u1, u2].toArray } } := I1.kept (t' := s1.toks) fun b o e => Heap.get?_push_of_some _ e
  rw [hw]
  refine wpAny_bind (wpAny_pure ?_)
  show wpAny (model X.prog X.w) X.A (do rule "assign.swapped-stores"; let items <- unpackItems (.ref s1.heap.objs.size) 2 none; assignInOrder [fun v => bindName X.env y v, fun v => bindName X.env x v] items.reverse; pure Flow.next) _ _ _
  refine wpAny_bind (wpAny_rule (wpAny_bind (unpackItems_tuple (items := #[u1, u2]) (I.ok.hd hc) (IsTup.new s1.heap _) fun h' hx' => ?_)))
  have I3 := I2.kept (h' := h') (t' := s1.toks) fun b o e => hx' b o (Nat.ne_of_lt (Heap.lt_size e)) e
  show wpAny _ _ (assignInOrder [fun v => bindName X.env y v, fun v => bindName X.env x v] [u2, u1] >>= fun _ => pure Flow.next) _ _ _
  refine wpAny_bind (assignInOrder_cons (wpAny_bindName (zeE I3 hN hj (.inl hy) rw' (fun s2 I4 => ?_) (.inr hy))))
  refine assignInOrder_cons (wpAny_bindName (zeE I4 hN hi (.inl hx) rv (fun s3 I5 => assignInOrder_nil (wpAny_pure ?_)) (.inr hx)))
  rw [List.set_comm _ _ (Ne.symm hij)] at I5
  exact ⟨_, H1, I5, q1⟩
def tAug (i : Nat) (te : TE) (ti : TIp) : TS := fun D σ H => ∃ x, σ[i]? = some (some x) /\ te σ H fun y H1 => ti x y H1 fun z H2 => D.nx (σ.set i (some z)) H2
theorem zqg {i : Nat} {x : Str} {e : Expr} {te : TE} {op : Operator} {ti : TIp} {pos' : Pos} (hN : X.N.Nodup) (hi : X.N[i]? = some x) (hx : Loc X.env.scope x) (he : PE X e te) (ho : PIp X op ti) (hf : X.fn x = true \/ X.env.scope.names.lookup x = some .local := by first | exact .inl rfl | exact .inr rfl | assumption) :
    PS X (.AugAssign (.Name x pos') op e pos) (tAug i te ti) := by
  intro pins s σ H D I h
  obtain ⟨v, e1, h⟩ := h
  obtain ⟨m, hn, hl⟩ := I.loc
  have vis : Vis X.env.scope x := by rcases hx with k | k; exact .inl k; exact .inr (.inl k)
  obtain ⟨u, r, l⟩ := hl i x v hi e1 vis
  refine wpAny_AugAssign_Name ?_
  have go : wpAny (model X.prog X.w) X.A (eval e X.env) (fun w s₂ => wpAny (model X.prog X.w) X.A (inplaceOp op u w) (fun r s₃ => wpAny (model X.prog X.w) X.A (storeName X.env x r) (fun _ => SP X pins D .next) X.xe s₃) X.xe s₂) X.xe s := by
    refine thn (he pins s σ H _ I h) fun w s1 ⟨y, H1, I1, r1, q1⟩ => ?_
    refine thn (ho pins s1 σ H1 v y u w _ I1 r r1 q1) fun z s2 ⟨zv, H2, I2, r2, q2⟩ => ?_
    exact zeE I2 hN hi hx r2 (fun s3 I3 => ⟨_, H2, I3, q2⟩) hf
  rcases l with ⟨hk, hm⟩ | ⟨hk, c, hc, hcell⟩
  · exact wpAny_loadName_local I.ok.kind hk hn hm go
  · rcases hk with hk | hk
    · exact wpAny_loadName_cell I.ok.kind hk hc hcell go
    · rcases hx with k | k
      · have : X.env.scope.names.lookup x = some .free := hk
        rw [k] at this; cases this
      · have : X.env.scope.names.lookup x = some .free := hk
        rw [k] at this; cases this
def ipI (f : Int -> Int -> Int) : TIp := fun x y H Q => ∃ i j, x = .int i /\ y = .int j /\ Q (.int (f i j)) H
theorem zpG : PIp X .Add (ipI fun i j => i + j) := by
  intro pins s σ H x y v u Q I r1 r2 h
  obtain ⟨i, j, e1, e2, q⟩ := h
  subst e1; subst e2
  obtain ⟨t, rfl⟩ := r1
  obtain ⟨t', rfl⟩ := r2
  exact iadd_int ⟨.int _, H, I.tok _, ⟨_, rfl⟩, q⟩
end
section
variable {X : Cx} {pos : Pos}
def tWhile (c : TT) (tb : TS) : TS := fun D σ H => ∃ W : Nat -> St -> Hp -> Prop, (∃ m, W m σ H) /\ ∀ m σ H, W m σ H ->
  c σ H fun b H1 => if b = true then ∃ N : St -> Hp -> Prop, (∀ σ' H', N σ' H' -> ∃ m', m' < m /\ W m' σ' H') /\ tb { D with nx := N, ct := N, bk := D.nx } σ H1 else D.nx σ H1
theorem znm {c : Expr} {body : List Stmt} {tc : TT} {tb : TS} (hp : PassesOwn (model X.prog X.w) X.A X.env X.xe) (hc : PT X c tc) (hb : PSs X body tb) : PS X (.While c body [] pos) (tWhile tc tb) := by
  intro pins s σ H D I h
  obtain ⟨W, ⟨m0, w0⟩, turn⟩ := h
  refine wpAny_While (codeAny_whileLoop (fun n s' => ∃ σ' H', Inv X pins σ' H' s' /\ W n σ' H') ?_ m0 ⟨σ, H, I, w0⟩)
  rintro n s1 ⟨σ1, H1, I1, w1⟩
  refine wpAny_passesOwn hp (thn (hc pins s1 σ1 H1 _ I1 (turn n σ1 H1 w1)) fun b s2 ⟨H2, I2, q2⟩ => ?_)
  cases b with
  | true =>
    obtain ⟨N, hN, q2⟩ := q2
    rw [if_pos rfl]
    refine wpAny_passesOwn hp (thn (hb pins s2 σ1 H2 _ I2 q2) fun f s3 q3 => ?_)
    cases f with
    | next =>
      obtain ⟨σ3, H3, I3, n3⟩ := q3
      obtain ⟨m', hm, w3⟩ := hN σ3 H3 n3
      exact ⟨m', hm, σ3, H3, I3, w3⟩
    | cont =>
      obtain ⟨σ3, H3, I3, n3⟩ := q3
      obtain ⟨m', hm, w3⟩ := hN σ3 H3 n3
      exact ⟨m', hm, σ3, H3, I3, w3⟩
    | brk => exact q3
    | ret v => exact q3
  | false =>
    rw [if_neg Bool.false_ne_true]
    exact wpAny_execs_nil ⟨σ1, H2, I2, q2⟩
end
structure It where
  go : Nat -> Hp -> Prop
  yld : Nat -> Hp -> V -> Hp -> Prop
  stop : Nat -> Hp -> Prop
def FpOk (X : Cx) (pins : List (Addr × Obj)) (H : Hp) (b : Addr) : Prop :=
  H b = none /\ b ≠ X.env.locals /\ b ∉ X.fs /\ (b ∈ X.ex \/ X.s₀.heap.objs.size <= b) /\ (∀ x c, X.env.cells.lookup x = some c -> c ≠ b) /\ ∀ p ∈ X.pn ++ pins, p.1 ≠ b
theorem Inv.fpOk {X : Cx} {pins : List (Addr × Obj)} {σ : St} {H H' : Hp} {s : Shared} {b : Addr} (I : Inv X pins σ H s) (hb : s.heap.objs.size <= b) (hn : H' b = none) : FpOk X pins H' b := by
  refine ⟨hn, Nat.ne_of_gt (Nat.lt_of_lt_of_le I.lt hb), I.nofs hb, .inr (Nat.le_trans I.sz hb), fun x c e z => ?_, fun p hp z => ?_⟩
  · obtain ⟨v, q⟩ := I.cell x c e
    exact absurd (Nat.lt_of_lt_of_le q.lt (by rw [z]; exact hb)) (Nat.lt_irrefl _)
  · exact absurd (Nat.lt_of_lt_of_le (Heap.lt_size (I.pin p hp).1) (by rw [z]; exact hb)) (Nat.lt_irrefl _)
structure Turn (P : Program) (w : World) (K : PySem.W.Frag) (tg : Expr) (J : It) (fp : List Addr) (it : Addr) (tn : Nat -> Heap -> Prop) : Prop where
  mem : it ∈ fp
  obj : ∀ i h, tn i h -> ∀ b ∈ fp, ∃ o, h.get? b = some o /\ ∀ v, o.data ≠ .cell v
  keep : ∀ i h h', tn i h -> (∀ b ∈ fp, ∀ o, h.get? b = some o -> h'.get? b = some o) -> tn i h'
  item : ∀ (X : Cx), X.prog = P -> X.w = w -> X.K = K -> X.calm = true -> ∀ (i : Nat) (pins : List (Addr × Obj)) (s : Shared) (σ : St) (H : Hp) (E : Value -> Shared -> Prop), Inv X pins σ H s -> (∀ b ∈ fp, FpOk X pins H b) -> tn i s.heap -> J.go i H ->
    wpAny (model P w) X.A (pyNext (.ref it)) (fun r s1 => ∃ u, r = some u /\
      wpAny (model P w) X.A (letOwnedTupleGo tg (.ref it) u) (fun _ s2 => ∃ x H', Inv X pins σ H' s2 /\ RelV x u /\ J.yld i H x H' /\ tn (i + 1) s2.heap /\ ∀ b ∈ fp, H' b = none) E s1) E s
  done : ∀ (X : Cx), X.prog = P -> X.w = w -> X.K = K -> X.calm = true -> ∀ (i : Nat) (pins : List (Addr × Obj)) (s : Shared) (σ : St) (H : Hp) (E : Value -> Shared -> Prop), Inv X pins σ H s -> (∀ b ∈ fp, FpOk X pins H b) -> tn i s.heap -> J.stop i H ->
    wpAny (model P w) X.A (pyNext (.ref it)) (fun r s1 => r = none /\ Inv X pins σ H s1) E s
  self : ∀ (A : Around) (i : Nat) (s : Shared) (Q : Value -> Shared -> Prop) (E : Value -> Shared -> Prop), tn i s.heap -> Q (.ref it) s -> wpAny (model P w) A (pyIter (.ref it)) Q E s
abbrev TI := St -> Hp -> (It -> Hp -> Prop) -> Prop
def PIE (X : Cx) (pins : List (Addr × Obj)) (σ : St) (tg : Expr) (R : It -> Hp -> Prop) (itv : Value) (s2 : Shared) : Prop :=
  ∃ (it : Addr) (fp : List Addr) (tn : Nat -> Heap -> Prop) (J : It) (H' : Hp), itv = .ref it /\ Inv X pins σ H' s2 /\ Turn X.prog X.w X.K tg J fp it tn /\ tn 0 s2.heap /\ (∀ b ∈ fp, FpOk X pins H' b) /\ R J H'
def PI (X : Cx) (tg iter : Expr) (wi : TI) : Prop :=
  ∀ (pins : List (Addr × Obj)) (s : Shared) (σ : St) (H : Hp) (R : It -> Hp -> Prop), Inv X pins σ H s -> wi σ H R ->
    wpAny (model X.prog X.w) X.A (eval iter X.env) (fun v s1 => wpAny (model X.prog X.w) X.A (pyIter v) (PIE X pins σ tg R) X.xe s1) X.xe s
theorem znu {M : Model} {A : Around} {E : Value -> Shared -> Prop} {s : Shared} {tg : Expr} {it : Addr} {u : Value} {o : Obj} {n : String} {vs : Array Value} {Q : Unit -> Shared -> Prop} (ho : s.heap.get? it = some o) (hc : o.cls = .type n) (hd : o.data = .fields vs)
    (hn : ["enumerate", "zip", "dict_itemiterator", "dict_reverseitemiterator", "odict_iterator", "itertools.zip_longest", "itertools.pairwise"].contains n = false) (hQ : Q () s) : wpAny M A (letOwnedTupleGo tg (.ref it) u) Q E s := by
  unfold letOwnedTupleGo
  cases tg <;> first
    | exact wpAny_pure hQ
    | (cases u <;> first
        | exact wpAny_pure hQ
        | (refine wpAny_bind (wpAny_load ho ?_)
           rw [hc, hd]
           show wpAny M A (if (["enumerate", "zip", "dict_itemiterator", "dict_reverseitemiterator", "odict_iterator", "itertools.zip_longest", "itertools.pairwise"].contains n && vs[0]? == some (rawInt _)) = true then _ else _) Q E s
           rw [if_neg (by intro h; rw [hn, Bool.false_and] at h; cases h)]
           exact wpAny_pure hQ))
def Itl (K : PySem.W.Frag) (a : Addr) : It :=
  ⟨fun i H => ∃ xs x, SqL K H a xs /\ xs[i]? = some x, fun i H x H' => H' = H /\ ∀ xs, SqL K H a xs -> xs[i]? = some x, fun i H => ∃ xs, SqL K H a xs /\ xs.length <= i⟩
def Itt (K : PySem.W.Frag) (a : Addr) : It :=
  ⟨fun i H => ∃ xs x, SqT K H a xs /\ xs[i]? = some x, fun i H x H' => H' = H /\ ∀ xs, SqT K H a xs -> xs[i]? = some x, fun i H => ∃ xs, SqT K H a xs /\ xs.length <= i⟩
def Itr (lo : Int) (n : Nat) : It := ⟨fun i _ => i < n, fun i H x H' => H' = H /\ x = .int (lo + i), fun i _ => n <= i⟩
theorem zlk {P : Program} {w : World} {K : PySem.W.Frag} {tg : Expr} (a it : Addr) : Turn P w K tg (Itl K a) [it] it (fun i h => h.IsListIter it a i) where
  mem := by simp
  obj := fun i h st b hb => by
    have e : b = it := by simpa using hb
    subst e
    obtain ⟨o, e, c, d⟩ := st
    exact ⟨o, e, fun v z => by rw [d] at z; cases z⟩
  keep := fun i h h' st k => st.at fun o e => k it (by simp) o e
  item := by
    intro X hP hw hK hc i pins s σ H E I hf st hg
    subst hP hw hK
    obtain ⟨xs, x, hq, hx⟩ := hg
    obtain ⟨its, rv, p, hz⟩ := I.list hq
    obtain ⟨u, hu, ru⟩ := rv.get hx
    obtain ⟨f0, f1, f2, f3, f4, f5⟩ := hf it (by simp)
    refine wpAny_pyNext_list_item st p.isList (x := u) (by simpa using hu) fun h' st' sb => ?_
    have I1 : Inv X pins σ H { s with heap := h' } := I.turned (t' := s.toks) (fun b o hb e => (sb.2 b hb).trans e) f0 f1 f3 f4 f5
    obtain ⟨o, e, c, d⟩ := id st'
    exact ⟨u, rfl, znu (s := { s with heap := h' }) e c d (by decide) ⟨x, H, I1, ru, ⟨rfl, fun ys hy => by rw [I.list_inj hy hq]; exact hx⟩, st', fun b hb => (hf b hb).1⟩⟩
  done := by
    intro X hP hw hK hc i pins s σ H E I hf st hg
    subst hP hw hK
    obtain ⟨xs, hq, hx⟩ := hg
    obtain ⟨its, rv, p, hz⟩ := I.list hq
    obtain ⟨f0, f1, f2, f3, f4, f5⟩ := hf it (by simp)
    have hl := rv.length
    exact wpAny_pyNext_list_end (I.ok.hd hc) st p.isList (by simp; omega) fun h' eb => ⟨rfl, I.turned (t' := s.toks) (fun b o hb e => eb b o hb e) f0 f1 f3 f4 f5⟩
  self := fun _ _ _ _ _ st h => wpAny_pyIter_listiter st h
theorem zj2 {P : Program} {w : World} {K : PySem.W.Frag} {tg : Expr} (a it : Addr) : Turn P w K tg (Itt K a) [it] it (fun i h => h.IsTupleIter it a i) where
  mem := by simp
  obj := fun i h st b hb => by
    have e : b = it := by simpa using hb
    subst e
    obtain ⟨o, e, c, d⟩ := st
    exact ⟨o, e, fun v z => by rw [d] at z; cases z⟩
  keep := fun i h h' st k => st.at fun o e => k it (by simp) o e
  item := by
    intro X hP hw hK hc i pins s σ H E I hf st hg
    subst hP hw hK
    obtain ⟨xs, x, hq, hx⟩ := hg
    obtain ⟨its, rv, p, hz⟩ := I.tuple hq
    obtain ⟨u, hu, ru⟩ := rv.get hx
    obtain ⟨f0, f1, f2, f3, f4, f5⟩ := hf it (by simp)
    refine wpAny_pyNext_tuple_item st (show s.heap.IsTuple a its.toArray from p) (x := u) (by simpa using hu) fun h' st' sb => ?_
    have I1 : Inv X pins σ H { s with heap := h' } := I.turned (t' := s.toks) (fun b o hb e => (sb.2 b hb).trans e) f0 f1 f3 f4 f5
    obtain ⟨o, e, c, d⟩ := id st'
    exact ⟨u, rfl, znu (s := { s with heap := h' }) e c d (by decide) ⟨x, H, I1, ru, ⟨rfl, fun ys hy => by rw [I.tuple_inj hy hq]; exact hx⟩, st', fun b hb => (hf b hb).1⟩⟩
  done := by
    intro X hP hw hK hc i pins s σ H E I hf st hg
    subst hP hw hK
    obtain ⟨xs, hq, hx⟩ := hg
    obtain ⟨its, rv, p, hz⟩ := I.tuple hq
    obtain ⟨f0, f1, f2, f3, f4, f5⟩ := hf it (by simp)
    have hl := rv.length
    exact wpAny_pyNext_tuple_end (I.ok.hd hc) st (show s.heap.IsTuple a its.toArray from p) (by simp; omega) fun h' eb => ⟨rfl, I.turned (t' := s.toks) (fun b o hb e => eb b o hb e) f0 f1 f3 f4 f5⟩
  self := fun _ _ _ _ _ st h => wpAny_pyIter_tupleiter st h
theorem zkN {P : Program} {w : World} {K : PySem.W.Frag} {tg : Expr} (it : Addr) (lo : Int) (n : Nat) : Turn P w K tg (Itr lo n) [it] it (fun i h => IsRangeIter h it (lo + (i : Nat) * 1) ((n : Int) - (i : Nat)) 1) where
  mem := by simp
  obj := fun i h st b hb => by
    have e : b = it := by simpa using hb
    subst e
    exact ⟨_, st, fun v z => by
      have z' : Data.fields _ = Data.cell v := z
      cases z'⟩
  keep := fun i h h' st k => k it (by simp) _ st
  item := by
    intro X hP hw hK hc i pins s σ H E I hf st hg
    subst hP hw hK
    obtain ⟨f0, f1, f2, f3, f4, f5⟩ := hf it (by simp)
    have W := Walks.range (prog := X.prog) (w := X.w) (I.ok.hd hc) it lo 1 n
    refine W.item i s _ _ hg st fun v h' tk hv st' kk => ?_
    obtain ⟨t, rfl⟩ := hv
    have I1 : Inv X pins σ H { s with heap := h', toks := tk } := I.turned (fun b o hb e => kk b o (by simpa using hb) e) f0 f1 f3 f4 f5
    refine ⟨_, rfl, znu (s := { s with heap := h', toks := tk }) (n := "range_iterator") st' rfl rfl (by decide) ⟨.int (lo + i), H, I1, ⟨t, ?_⟩, ⟨rfl, rfl⟩, st', fun b hb => (hf b hb).1⟩⟩
    rw [Int.mul_one]
  done := by
    intro X hP hw hK hc i pins s σ H E I hf st hg
    subst hP hw hK
    obtain ⟨f0, f1, f2, f3, f4, f5⟩ := hf it (by simp)
    exact wpAny_pyNext_range_end (I.ok.hd hc) st (by have : n <= i := hg; omega) fun h' eb => ⟨rfl, I.turned (t' := s.toks) (fun b o hb e => eb b o hb e) f0 f1 f3 f4 f5⟩
  self := fun _ _ _ _ _ st h => wpAny_pyIter_rangeiter st h
end L2
namespace L2
open PySem PySem.Spec PyProof.Rows
section
variable {X : Cx} {tg : Expr}
theorem znw {pins : List (Addr × Obj)} {σ : St} {H : Hp} {s : Shared} {R : It -> Hp -> Prop} {E : Value -> Shared -> Prop} {lo hi : Int} {t u v : Tok} {tk : Nat} (I : Inv X pins σ H s) (h1 : -(2 ^ 62) <= lo) (h2 : lo < 2 ^ 62) (h3 : -(2 ^ 62) <= hi) (h4 : hi < 2 ^ 62)
    (q : R (Itr lo (hi - lo).toNat) H) : wpAny (model X.prog X.w) X.A (pyIter (.ref s.heap.objs.size)) (PIE X pins σ tg R) E { s with heap := s.heap.push { cls := .type "range", data := .fields #[.int lo t, .int hi u, .int 1 v] }, toks := tk } := by
  refine wpAny_pyIter_range (IsRange.new ..) (small_one h1 h2 h3 h4) ?_
  have I1 : Inv X pins σ H { s with heap := s.heap.push { cls := .type "range", data := .fields #[.int lo t, .int hi u, .int 1 v] }, toks := tk } := I.kept fun b o e => Heap.get?_push_of_some _ e
  refine ⟨(s.heap.push { cls := .type "range", data := .fields #[.int lo t, .int hi u, .int 1 v] }).objs.size, [(s.heap.push { cls := .type "range", data := .fields #[.int lo t, .int hi u, .int 1 v] }).objs.size], _, _, H, rfl,
    I1.kept (t' := tk) fun b o e => Heap.get?_push_of_some _ e, zkN _ lo (hi - lo).toNat, ?_, fun b hb => ?_, q⟩
  · have e1 : lo + ((0 : Nat) : Int) * 1 = lo := by simp
    have e2 : (((hi - lo).toNat : Nat) : Int) - ((0 : Nat) : Int) = Builtin.Range.rangeSize lo hi 1 := by rw [rangeSize_one]; split <;> omega
    show IsRangeIter _ _ (lo + ((0 : Nat) : Int) * 1) ((((hi - lo).toNat : Nat) : Int) - ((0 : Nat) : Int)) 1
    rw [e1, e2]
    exact Heap.get?_push_size _ rfl
  · have e : b = (s.heap.push { cls := .type "range", data := .fields #[.int lo t, .int hi u, .int 1 v] }).objs.size := by simpa using hb
    subst e
    exact I1.fpOk (Nat.le_refl _) (I1.hok.fresh (Nat.le_refl _))
def iRng1 (ta : TA) : TI := fun σ H R => ta σ H fun vs H1 => ∃ j : Int, vs = [.int j] /\ -(2 ^ 62) <= j /\ j < 2 ^ 62 /\ R (Itr 0 j.toNat) H1
theorem zlW {a : Expr} {ta : TA} {p pos : Pos} (hg : Gl X "range") (hm : X.mg "range" = none) (ha : PA X [a] ta) (hs : starEach [a] X.env = [(false, eval a X.env)] := by rfl) : PI X tg (.Call (.Name "range" p) [a] [] pos) (iRng1 ta) := by
  intro pins s σ H R I h
  refine Call_ (zg5 I hg hm boot_range (PyProof.Rows.callWith_type1 (thn (ha pos pins s σ H _ I h) fun us s1 ⟨vs, H1, I1, r1, q1⟩ => ?_) hs rfl))
  obtain ⟨j, e, q1, q2, q⟩ := q1
  subst e
  cases r1 with
  | cons r rr =>
    cases rr
    obtain ⟨t, rfl⟩ := r
    exact call_range_1 (znw I1 (by omega) (by omega) q1 q2 (by simpa using q))
def tFor (wi : TI) (g : TG) (tb : TS) : TS := fun D σ H => wi σ H fun J H1 => ∃ W : Nat -> Nat -> St -> Hp -> Prop, (∃ m, W 0 m σ H1) /\ ∀ i m σ H, W i m σ H ->
  (J.stop i H /\ D.nx σ H) \/ (J.go i H /\ ∃ N : St -> Hp -> Prop, (∀ σ' H', N σ' H' -> ∃ m', m' < m /\ W (i + 1) m' σ' H') /\ ∀ x H', J.yld i H x H' -> g x σ H' fun σ2 H2 => tb { D with nx := N, ct := N, bk := D.nx } σ2 H2)
def pinsAt (fp : List Addr) (h : Heap) : List (Addr × Obj) := fp.filterMap fun b => (h.get? b).map fun o => (b, o)
theorem zdu {fp : List Addr} {h : Heap} {b : Addr} {o : Obj} (hb : b ∈ fp) (e : h.get? b = some o) : (b, o) ∈ pinsAt fp h := List.mem_filterMap.mpr ⟨b, hb, by rw [e]; rfl⟩
theorem zk1 {fp : List Addr} {h : Heap} {p : Addr × Obj} (hp : p ∈ pinsAt fp h) : p.1 ∈ fp /\ h.get? p.1 = some p.2 := by
  obtain ⟨b, hb, e⟩ := List.mem_filterMap.mp hp
  cases q : h.get? b with
  | none => rw [q] at e; cases e
  | some o =>
    rw [q] at e
    have e' : (b, o) = p := Option.some.inj e
    subst e'
    exact ⟨hb, q⟩
theorem Inv.pinned {pins : List (Addr × Obj)} {σ : St} {H : Hp} {s : Shared} {fp : List Addr} (I : Inv X pins σ H s) (hf : ∀ b ∈ fp, FpOk X pins H b) (ho : ∀ b ∈ fp, ∃ o, s.heap.get? b = some o /\ ∀ v, o.data ≠ .cell v) : Inv X (pins ++ pinsAt fp s.heap) σ H s :=
  I.pins_of fun p hp => (List.mem_append.mp hp).elim (fun z => I.pin p (List.mem_append_right _ z)) fun z => by
    obtain ⟨hb, e⟩ := zk1 z
    obtain ⟨f0, f1, f2, _⟩ := hf p.1 hb
    obtain ⟨o, e', d⟩ := ho p.1 hb
    rw [e] at e'; cases e'
    exact ⟨e, f0, f1, f2, d⟩
theorem Inv.unpinned {pins pl : List (Addr × Obj)} {σ : St} {H : Hp} {s : Shared} (I : Inv X (pins ++ pl) σ H s) : Inv X pins σ H s := I.pins_of fun p hp => I.pin p (List.mem_append_right _ (List.mem_append_left _ hp))
theorem zpv {iter : Expr} {body : List Stmt} {wi : TI} {g : TG} {tb : TS} {pos : Pos} (hp : PassesOwn (model X.prog X.w) X.A X.env X.xe) (hc : X.calm = true) (hi : PI X tg iter wi) (hg : PG X tg g) (hb : PSs X body tb)
    (hs : ∀ x, foldedSetIterable iter X.env x = pure x := by intro _; rfl) : PS X (.For tg iter body [] pos) (tFor wi g tb) := by
  intro pins s σ H D I h
  refine wpAny_For (thn (hi pins s σ H _ I h) fun v s1 h1 => thn h1 fun itv s2 h2 => ?_) hs
  obtain ⟨it, fp, tn, J, H2, e, I2, T, st2, f2, W, ⟨m0, w0⟩, turn⟩ := h2
  subst e
  -- what stays true of the iterator's objects through the loop
  have stat : ∀ {H' : Hp}, (∀ b ∈ fp, H' b = none) -> ∀ b ∈ fp, FpOk X pins H' b := fun hn b hb => ⟨hn b hb, (f2 b hb).2⟩
  refine codeAny_forLoop_any (fun n s' => ∃ i σ' H', Inv X pins σ' H' s' /\ tn i s'.heap /\ (∀ b ∈ fp, H' b = none) /\ W i n σ' H') ?_ m0 ⟨0, σ, H2, I2, st2, fun b hb => (f2 b hb).1, w0⟩
  rintro n s3 ⟨i, σ3, H3, I3, st3, fr3, w3⟩
  rcases turn i n σ3 H3 w3 with ⟨stop, qn⟩ | ⟨go, N, hN, step⟩
  · refine wpAny_passesOwn hp (thn (T.done X rfl rfl rfl hc i pins s3 σ3 H3 X.xe I3 (stat fr3) st3 stop) fun r s4 ⟨hr, I4⟩ => ?_)
    subst hr
    exact wpAny_execs_nil ⟨σ3, H3, I4, qn⟩
  · refine wpAny_passesOwn hp (thn (T.item X rfl rfl rfl hc i pins s3 σ3 H3 X.xe I3 (stat fr3) st3 go) fun r s4 ⟨u, hr, h4⟩ => ?_)
    subst hr
    refine wpAny_passesOwn hp (thn h4 fun _ s5 ⟨x, H5, I5, r5, y5, st5, fr5⟩ => ?_)
    have I5' := I5.pinned (stat fr5) (T.obj _ _ st5)
    refine wpAny_passesOwn hp (thn (hg _ s5 σ3 H5 x u _ I5' r5 (step x H5 y5)) fun _ s6 ⟨σ6, H6, I6, q6⟩ => ?_)
    refine wpAny_passesOwn hp (thn (hb _ s6 σ6 H6 _ I6 q6) fun f s7 q7 => ?_)
    have again : ∀ {σ7 : St} {H7 : Hp}, Inv X (pins ++ pinsAt fp s5.heap) σ7 H7 s7 -> N σ7 H7 -> ∃ m, m < n /\ ∃ i σ' H', Inv X pins σ' H' s7 /\ tn i s7.heap /\ (∀ b ∈ fp, H' b = none) /\ W i m σ' H' := fun {σ7 H7} I7 n7 => by
      obtain ⟨m', hm, w7⟩ := hN σ7 H7 n7
      refine ⟨m', hm, i + 1, σ7, H7, I7.unpinned, T.keep _ _ _ st5 fun b hb o e => (I7.pin (b, o) (List.mem_append_right _ (List.mem_append_right _ (zdu hb e)))).1, fun b hb => ?_, w7⟩
      obtain ⟨o, e, d⟩ := T.obj _ _ st5 b hb
      exact (I7.pin (b, o) (List.mem_append_right _ (List.mem_append_right _ (zdu hb e)))).2.1
    cases f with
    | next => obtain ⟨σ7, H7, I7, n7⟩ := q7; exact again I7 n7
    | cont => obtain ⟨σ7, H7, I7, n7⟩ := q7; exact again I7 n7
    | brk => obtain ⟨σ7, H7, I7, q7⟩ := q7; exact ⟨σ7, H7, I7.unpinned, q7⟩
    | ret v => obtain ⟨x7, σ7, H7, I7, r7, q7⟩ := q7; exact ⟨x7, σ7, H7, I7.unpinned, r7, q7⟩
end
end L2
namespace L2
open PySem PySem.Spec PyProof.Rows
abbrev R2 := V -> V -> Hp -> VK -> Prop
def OpR (X : Cx) (f : Value -> Value -> Sem Value) (r : R2) : Prop :=
  ∀ (pins : List (Addr × Obj)) (s : Shared) (σ : St) (H : Hp) (x y : V) (v u : Value) (Q : VK), Inv X pins σ H s -> RelV x v -> RelV y u -> r x y H Q ->
    wpAny (model X.prog X.w) X.A (f v u) (EP X pins σ Q) X.xe s
def UnR (X : Cx) (f : Value -> Sem Value) (r : V -> Hp -> VK -> Prop) : Prop :=
  ∀ (pins : List (Addr × Obj)) (s : Shared) (σ : St) (H : Hp) (x : V) (v : Value) (Q : VK), Inv X pins σ H s -> RelV x v -> r x H Q ->
    wpAny (model X.prog X.w) X.A (f v) (EP X pins σ Q) X.xe s
def CallR (X : Cx) (f : Value) (r : List V -> Hp -> VK -> Prop) : Prop :=
  ∀ (pins : List (Addr × Obj)) (s : Shared) (σ : St) (H : Hp) (xs : List V) (us : List Value) (Q : VK), Inv X pins σ H s -> Vals xs us -> r xs H Q ->
    wpAny (model X.prog X.w) X.A (call f us) (EP X pins σ Q) X.xe s
def TruR (X : Cx) (r : V -> Hp -> (Bool -> Hp -> Prop) -> Prop) : Prop :=
  ∀ (pins : List (Addr × Obj)) (s : Shared) (σ : St) (H : Hp) (x : V) (v : Value) (Q : Bool -> Hp -> Prop), Inv X pins σ H s -> RelV x v -> r x H Q ->
    wpAny (model X.prog X.w) X.A (truthy v) (TP X pins σ Q) X.xe s
def tOp (r : R2) (ta tb : TE) : TE := fun σ H Q => ta σ H fun x H1 => tb σ H1 fun y H2 => r x y H2 Q
def tUn (r : V -> Hp -> VK -> Prop) (ta : TE) : TE := fun σ H Q => ta σ H fun x H1 => r x H1 Q
def rI (C : Int -> Int -> Prop) (g : Int -> Int -> V) : R2 := fun x y H Q => ∃ i j, x = .int i /\ y = .int j /\ C i j /\ Q (g i j) H
def rI0 (g : Int -> Int -> V) : R2 := fun x y H Q => ∃ i j, x = .int i /\ y = .int j /\ Q (g i j) H
def rU (g : Int -> V) : V -> Hp -> VK -> Prop := fun x H Q => ∃ i, x = .int i /\ Q (g i) H
section
variable {X : Cx} {a b c : Expr} {ta tb tc : TE} {pos : Pos}
theorem binT (ha : PE X a ta) (hb : PE X b tb) {pins : List (Addr × Obj)} {s : Shared} {σ : St} {H : Hp} {R : V -> V -> Hp -> Prop} (I : Inv X pins σ H s)
    (h : ta σ H fun x H1 => tb σ H1 fun y H2 => R x y H2) {Q : Value -> Shared -> Prop} {f : Value -> Value -> Sem Value}
    (hf : ∀ v u s2 x y H2, Inv X pins σ H2 s2 -> RelV x v -> RelV y u -> R x y H2 -> wpAny (model X.prog X.w) X.A (f v u) Q X.xe s2) :
    wpAny (model X.prog X.w) X.A (eval a X.env) (fun v s₁ => wpAny (model X.prog X.w) X.A (eval b X.env) (fun u s₂ => wpAny (model X.prog X.w) X.A (f v u) Q X.xe s₂) X.xe s₁) X.xe s := by
  refine thn (ha pins s σ H _ I h) fun v s1 ⟨x, H1, I1, r1, q1⟩ => ?_
  refine thn (hb pins s1 σ H1 _ I1 q1) fun u s2 ⟨y, H2, I2, r2, q2⟩ => ?_
  exact hf v u s2 x y H2 I2 r1 r2 q2
theorem zqw {op : Operator} {r : R2} (ho : OpR X (binaryOp op) r) (ha : PE X a ta) (hb : PE X b tb) : PE X (.BinOp a op b pos) (tOp r ta tb) := by
  intro pins s σ H Q I h
  exact wpAny_BinOp (binT ha hb I h fun v u s2 x y H2 I2 rx ry q => ho pins s2 σ H2 x y v u Q I2 rx ry q)
theorem zpm {op : UnaryOp} {r : V -> Hp -> VK -> Prop} (ho : UnR X (unaryOp op) r) (ha : PE X a ta) : PE X (.UnaryOp op a pos) (tUn r ta) := by
  intro pins s σ H Q I h
  exact UnaryOp_ (thn (ha pins s σ H _ I h) fun v s1 ⟨x, H1, I1, r1, q1⟩ => ho pins s1 σ H1 x v Q I1 r1 q1)
theorem opI {f : Value -> Value -> Sem Value} {C : Int -> Int -> Prop} {g : Int -> Int -> Int}
    (rule : ∀ (i j : Int) (t u : Tok) (s : Shared) (Q : Value -> Shared -> Prop) (E : Value -> Shared -> Prop), C i j -> Q (.int (g i j) s.toks) { s with toks := s.toks + 1 } -> wpAny (model X.prog X.w) X.A (f (.int i t) (.int j u)) Q E s) :
    OpR X f (rI C fun i j => .int (g i j)) := by
  intro pins s σ H x y v u Q I rx ry h
  obtain ⟨i, j, rfl, rfl, hc, q⟩ := h
  obtain ⟨t, rfl⟩ := rx
  obtain ⟨t', rfl⟩ := ry
  exact rule i j t t' s _ _ hc ⟨.int (g i j), H, I.tok _, ⟨_, rfl⟩, q⟩
theorem opI0 {f : Value -> Value -> Sem Value} {g : Int -> Int -> Int}
    (rule : ∀ (i j : Int) (t u : Tok) (s : Shared) (Q : Value -> Shared -> Prop) (E : Value -> Shared -> Prop), Q (.int (g i j) s.toks) { s with toks := s.toks + 1 } -> wpAny (model X.prog X.w) X.A (f (.int i t) (.int j u)) Q E s) :
    OpR X f (rI0 fun i j => .int (g i j)) := by
  intro pins s σ H x y v u Q I rx ry h
  obtain ⟨i, j, rfl, rfl, q⟩ := h
  obtain ⟨t, rfl⟩ := rx
  obtain ⟨t', rfl⟩ := ry
  exact rule i j t t' s _ _ ⟨.int (g i j), H, I.tok _, ⟨_, rfl⟩, q⟩
theorem opB0 {f : Value -> Value -> Sem Value} {g : Int -> Int -> Bool}
    (rule : ∀ (i j : Int) (t u : Tok) (s : Shared) (Q : Value -> Shared -> Prop) (E : Value -> Shared -> Prop), Q (.bool (g i j)) s -> wpAny (model X.prog X.w) X.A (f (.int i t) (.int j u)) Q E s) :
    OpR X f (rI0 fun i j => .bl (g i j)) := by
  intro pins s σ H x y v u Q I rx ry h
  obtain ⟨i, j, rfl, rfl, q⟩ := h
  obtain ⟨t, rfl⟩ := rx
  obtain ⟨t', rfl⟩ := ry
  exact rule i j t t' s _ _ ⟨.bl (g i j), H, I, rfl, q⟩
def CPow (i j : Int) : Prop := 0 <= j /\ j <= 1000000 /\ i.natAbs < 2 ^ 64
def CMul (i j : Int) : Prop := (-(2 ^ 64) < i /\ i < 2 ^ 64) \/ (-(2 ^ 64) < j /\ j < 2 ^ 64)
theorem CMul.ok {i j : Int} (h : CMul i j) : IntMulOk i j := by
  rcases h with ⟨h1, h2⟩ | ⟨h1, h2⟩
  · exact .of_left (intBits_le_64 h1 h2)
  · exact .of_right (intBits_le_64 h1 h2)
theorem zqi : OpR X (binaryOp .Add) (rI0 fun i j => .int (i + j)) := opI0 fun _ _ _ _ _ _ _ q => add_int q
theorem zpO : OpR X (binaryOp .Sub) (rI0 fun i j => .int (i - j)) := opI0 fun _ _ _ _ _ _ _ q => sub_int q
theorem zpd : OpR X (binaryOp .Mult) (rI CMul fun i j => .int (i * j)) := opI fun _ _ _ _ _ _ _ hc q => mul_int q hc.ok
theorem zpl : OpR X (binaryOp .Mod) (rI (fun _ j => 0 < j) fun i j => .int (i % j)) := opI fun i j _ _ _ _ _ hc q => by
  have h1 : (0 : Int) < j := hc
  exact mod_int' (by omega) (by rw [Int.fmod_eq_emod_of_nonneg i (by omega)]; exact q)
theorem zpB : OpR X (binaryOp .Pow) (rI CPow fun i j => .int (i ^ j.toNat)) := opI fun _ _ _ _ _ _ _ hc q => pow_int_small hc.1 hc.2.1 hc.2.2 q
theorem zqh : OpR X (binaryOp .BitAnd) (rI0 fun i j => .int (Builtin.bitAnd i j)) := opI0 fun _ _ _ _ _ _ _ q => and_int q
theorem zql : OpR X (binaryOp .BitOr) (rI0 fun i j => .int (Builtin.bitOr i j)) := opI0 fun _ _ _ _ _ _ _ q => or_int q
theorem zpV : OpR X (binaryOp .BitXor) (rI0 fun i j => .int (Builtin.bitXor i j)) := opI0 fun _ _ _ _ _ _ _ q => xor_int q
theorem unI {f : Value -> Sem Value} {g : Int -> Int}
    (rule : ∀ (i : Int) (t : Tok) (s : Shared) (Q : Value -> Shared -> Prop) (E : Value -> Shared -> Prop), Q (.int (g i) s.toks) { s with toks := s.toks + 1 } -> wpAny (model X.prog X.w) X.A (f (.int i t)) Q E s) :
    UnR X f (rU fun i => .int (g i)) := by
  intro pins s σ H x v Q I rx h
  obtain ⟨i, rfl, q⟩ := h
  obtain ⟨t, rfl⟩ := rx
  exact rule i t s _ _ ⟨.int (g i), H, I.tok _, ⟨_, rfl⟩, q⟩
theorem znH : UnR X (unaryOp .USub) (rU fun i => .int (-i)) := unI fun _ _ _ _ _ q => neg_int q
theorem zlY : OpR X (binaryOp .Add) (fun x y H Q => ∃ i k, x = .int i /\ y = .bl k /\ Q (.int (i + b2i k)) H) := by
  intro pins s σ H x y v u Q I rx ry h
  obtain ⟨i, k, rfl, rfl, q⟩ := h
  obtain ⟨t, rfl⟩ := rx
  cases ry
  exact add_int_bool ⟨.int (i + b2i k), H, I.tok _, ⟨_, rfl⟩, q⟩
end
section
variable {X : Cx} {a b c : Expr} {ta tb tc : TE} {pos : Pos}
theorem zlZ {pins : List (Addr × Obj)} {σ : St} {H : Hp} {s : Shared} {Q : VK} {k k' : Bool} (I : Inv X pins σ H s) (q : Q (.bl k) H) (e : k = k') : EP X pins σ Q (.bool k') s := by
  subst e
  exact ⟨.bl k, H, I, rfl, q⟩
theorem zqv : OpR X (compareOp .Lt) (rI0 fun i j => .bl (decide (i < j))) := opB0 fun _ _ _ _ _ _ _ q => lt_int q
theorem zqx : OpR X (compareOp .LtE) (rI0 fun i j => .bl (decide (i <= j))) := opB0 fun _ _ _ _ _ _ _ q => le_int q
theorem zqu : OpR X (compareOp .Gt) (rI0 fun i j => .bl (decide (j < i))) := opB0 fun _ _ _ _ _ _ _ q => gt_int q
theorem zqs : OpR X (compareOp .GtE) (rI0 fun i j => .bl (decide (j <= i))) := opB0 fun _ _ _ _ _ _ _ q => ge_int q
theorem zlC : OpR X (compareOp .In) (fun x y H Q => ∃ i j, x = .str i /\ y = .str j /\ Q (.bl (!(Builtin.Str.occurrences j i 0 j.length 1).isEmpty)) H) := by
  intro pins s σ H x y v u Q I rx ry h
  obtain ⟨i, j, rfl, rfl, q⟩ := h
  obtain ⟨t, rfl⟩ := rx
  obtain ⟨t', rfl⟩ := ry
  exact in_str (zlZ I q rfl)
theorem zpW : OpR X (compareOp .Is) (fun x y H Q => y = .non /\ Q (.bl (decide (x = .non))) H) := by
  intro pins s σ H x y v u Q I rx ry h
  obtain ⟨rfl, q⟩ := h
  cases ry
  refine is_none_gen (zlZ I q ?_)
  cases x <;> first
    | (cases rx; rfl)
    | (obtain ⟨t, rfl⟩ := rx; rfl)
theorem ziv : OpR X (compareOp .NotIn) (fun x y H Q => ∃ i j, x = .str i /\ y = .str j /\ Q (.bl (!(!(Builtin.Str.occurrences j i 0 j.length 1).isEmpty))) H) := by
  intro pins s σ H x y v u Q I rx ry h
  obtain ⟨i, j, rfl, rfl, q⟩ := h
  obtain ⟨t, rfl⟩ := rx
  obtain ⟨t', rfl⟩ := ry
  exact notIn_str (zlZ I q rfl)
theorem nomark (b : Expr) {op : CmpOp} (h : op ≠ .In := by decide) (h2 : op ≠ .NotIn := by decide) : behindInMarks op b = false := by
  have e1 : (op == CmpOp.In) = false := by cases op <;> first | rfl | exact absurd rfl h
  have e2 : (op == CmpOp.NotIn) = false := by cases op <;> first | rfl | exact absurd rfl h2
  cases b <;> simp [behindInMarks, e1, e2]
theorem zoI {op : CmpOp} {r : R2} (ho : OpR X (compareOp op) r) (ha : PE X a ta) (hb : PE X b tb) (hm : behindInMarks op b = false) : PE X (.Compare a [op] [b] pos) (tOp r ta tb) := by
  intro pins s σ H Q I h
  exact wpAny_Compare1 (binT ha hb I h fun v u s2 x y H2 I2 rx ry q => ho pins s2 σ H2 x y v u Q I2 rx ry q) hm
def tTest (t : TE) : TT := fun σ H Q => t σ H fun x H' => ∃ k, x = .bl k /\ Q k H'
theorem zoj {op : CmpOp} {r : R2} (ho : OpR X (compareOp op) r) (ha : PE X a ta) (hb : PE X b tb) (hm : behindInMarks op b = false) : PT X (.Compare a [op] [b] pos) (tTest (tOp r ta tb)) := by
  intro pins s σ H Q I h
  refine wpAny_isTrue_Compare1 (thn (ha pins s σ H _ I h) fun v s1 ⟨x, H1, I1, r1, q1⟩ => thn (hb pins s1 σ H1 _ I1 q1) fun u s2 ⟨y, H2, I2, r2, q2⟩ =>
    thn (ho pins s2 σ H2 x y v u _ I2 r1 r2 q2) fun c s3 ⟨z, H3, I3, r3, k, e, q3⟩ => ?_) hm
  subst e
  cases r3
  exact wpAny_truthy_bool ⟨H3, I3, q3⟩
def tChain (r r' : R2) (ta tb tc : TE) : TE := fun σ H Q => ta σ H fun x H1 => tb σ H1 fun y H2 => r x y H2 fun z H3 => ∃ k, z = .bl k /\
  (if k = true then tc σ H3 fun w' H4 => r' y w' H4 Q else Q (.bl false) H3)
theorem zmF {op op' : CmpOp} {r r' : R2} (ho : OpR X (compareOp op) r) (ho' : OpR X (compareOp op') r') (ha : PE X a ta) (hb : PE X b tb) (hc : PE X c tc)
    (hm : lastMarks [op, op'] [b, c] = false := by with_unfolding_all rfl) : PE X (.Compare a [op, op'] [b, c] pos) (tChain r r' ta tb tc) := by
  intro pins s σ H Q I h
  refine Compare_chain (thn (ha pins s σ H _ I h) fun v s1 ⟨x, H1, I1, r1, q1⟩ => chain_link (thn (hb pins s1 σ H1 _ I1 q1) fun u s2 ⟨y, H2, I2, r2, q2⟩ =>
    thn (ho pins s2 σ H2 x y v u _ I2 r1 r2 q2) fun d s3 ⟨z, H3, I3, r3, k, e, q3⟩ => ?_)) hm
  subst e
  cases r3
  refine wpAny_truthy_bool ?_
  cases k with
  | false => exact ite_ff ⟨.bl false, H3, I3, rfl, q3⟩
  | true => exact ite_tt (chain_last (thn (hc pins s3 σ H3 _ I3 q3) fun w' s4 ⟨z', H4, I4, r4, q4⟩ => ho' pins s4 σ H4 y z' u w' Q I4 r2 r4 q4))
theorem zmR {op op' : CmpOp} {r r' : R2} (ho : OpR X (compareOp op) r) (ho' : OpR X (compareOp op') r') (ha : PE X a ta) (hb : PE X b tb) (hc : PE X c tc)
    (hm : lastMarks [op, op'] [b, c] = false := by with_unfolding_all rfl) : PT X (.Compare a [op, op'] [b, c] pos) (tTest (tChain r r' ta tb tc)) := by
  intro pins s σ H Q I h
  refine isTrue_chain (thn (ha pins s σ H _ I h) fun v s1 ⟨x, H1, I1, r1, q1⟩ => test_link (thn (hb pins s1 σ H1 _ I1 q1) fun u s2 ⟨y, H2, I2, r2, q2⟩ =>
    thn (ho pins s2 σ H2 x y v u _ I2 r1 r2 q2) fun d s3 ⟨z, H3, I3, r3, k, e, q3⟩ => ?_)) hm
  subst e
  cases r3
  refine wpAny_truthy_bool ?_
  cases k with
  | false =>
    obtain ⟨k', e', q'⟩ := q3
    cases e'
    exact ite_ff ⟨H3, I3, q'⟩
  | true =>
    refine ite_tt (test_last (thn (hc pins s3 σ H3 _ I3 q3) fun w' s4 ⟨z', H4, I4, r4, q4⟩ => thn (ho' pins s4 σ H4 y z' u w' _ I4 r2 r4 q4) fun d' s5 ⟨z2, H5, I5, r5, k2, e2, q5⟩ => ?_))
    subst e2
    cases r5
    exact wpAny_truthy_bool ⟨H5, I5, q5⟩
def TruV (K : PySem.W.Frag) (x : V) (H : Hp) (k : Bool) : Prop :=
  match x with
  | .non => k = false
  | .bl b => k = b
  | .int i => k = (i != 0)
  | .str y => y.length <= sizeLine /\ k = ((y.length : Int) != 0)
  | .byt y => y.size <= sizeLine /\ k = ((y.size : Int) != 0)
  | .ref p => (∃ xs, SqL K H p xs /\ k = !xs.isEmpty) \/ (∃ xs, SqT K H p xs /\ k = !xs.isEmpty) \/ ∃ kvs, H p = some (.dK kvs) /\ k = !kvs.isEmpty
  | _ => False
theorem zj4 {κ : Type} {kvs : List (κ × V)} {vs : List (κ × Value)} (r : KV kvs vs) : (!vs.isEmpty) = !kvs.isEmpty := by
  cases r <;> rfl
theorem zgX {xs : List V} {its : List Value} (r : Vals xs its) : (!its.toArray.isEmpty) = !xs.isEmpty := by
  cases r <;> simp
theorem line63 : (sizeLine : Nat) < 2 ^ 63 := by rw [sizeLine_eq]; decide
theorem zpN : TruR X (fun x H Q => ∃ k, TruV X.K x H k /\ Q k H) := by
  intro pins s σ H x v Q I rx h
  obtain ⟨k, e, q⟩ := h
  have hl := line63
  have hs : sizeLine = 16777216 := sizeLine_eq
  cases x with
  | non =>
    cases rx
    have e' : k = false := e
    subst e'
    exact truthy_none ⟨H, I, q⟩
  | bl b =>
    cases rx
    have e' : k = b := e
    subst e'
    exact wpAny_truthy_bool ⟨H, I, q⟩
  | int i =>
    obtain ⟨t, rfl⟩ := rx
    have e' : k = (i != 0) := e
    subst e'
    exact PySem.P.truthy_int ⟨H, I, q⟩
  | str y =>
    obtain ⟨t, rfl⟩ := rx
    obtain ⟨hy, e'⟩ : y.length <= sizeLine /\ k = ((y.length : Int) != 0) := e
    subst e'
    exact PySem.P.truthy_str (by omega) ⟨H, I.tok _, q⟩
  | byt y =>
    obtain ⟨t, rfl⟩ := rx
    obtain ⟨hy, e'⟩ : y.size <= sizeLine /\ k = ((y.size : Int) != 0) := e
    subst e'
    exact PySem.W.truthy_bytes (by omega) ⟨H, I.tok _, q⟩
  | ref p =>
    cases rx
    have e' : (∃ xs, SqL X.K H p xs /\ k = !xs.isEmpty) \/ (∃ xs, SqT X.K H p xs /\ k = !xs.isEmpty) \/ ∃ kvs, H p = some (.dK kvs) /\ k = !kvs.isEmpty := e
    rcases e' with ⟨xs, hx, e'⟩ | ⟨xs, hx, e'⟩ | ⟨kvs, hx, e'⟩
    · subst e'
      obtain ⟨its, r, pl, hz⟩ := I.list hx
      have hlen := r.length
      exact wpAny_truthy_list pl.isList (by simp only [List.size_toArray]; omega) ⟨H, I.tok _, by rw [zgX r]; exact q⟩
    · subst e'
      obtain ⟨its, r, pl, hz⟩ := I.tuple hx
      have hlen := r.length
      exact truthy_tuple pl (by simp only [List.size_toArray]; omega) ⟨H, I.tok _, by rw [zgX r]; exact q⟩
    · subst e'
      obtain ⟨hz, hS, vs, r, m⟩ : kvs.length <= sizeLine /\ (p == sysModules) = false /\ ∃ vs, KV kvs vs /\ s.heap.DictOf (mixKind X.prog X.w) p vs := I.hok p _ hx
      have hlen : kvs.length = vs.length := Paired.length r
      exact wpAny_truthy_dict hS m (by omega) ⟨H, I.tok _, by rw [zj4 r]; exact q⟩
  | _ => exact (show False from e).elim
theorem zni (ha : PE X a ta) (he : ∀ whole, isTrue a X.env whole = (do let v <- whole; standAt a.pos; holding [v] (truthy v))) :
    PT X a (fun σ H Q => ta σ H fun x H' => ∃ k, TruV X.K x H' k /\ Q k H') := by
  intro pins s σ H Q I h
  exact isTrue_plain (thn (ha pins s σ H _ I h) fun v s1 ⟨x, H1, I1, r1, q1⟩ => zpN pins s1 σ H1 x v Q I1 r1 q1) (he _)
theorem zjY : OpR X (binaryOp .Add) (fun x y H Q => ∃ i j, x = .str i /\ y = .str j /\ i.length + j.length <= sizeLine /\ Q (.str (i ++ j)) H) := by
  intro pins s σ H x y v u Q I rx ry h
  obtain ⟨i, j, rfl, rfl, hz, q⟩ := h
  obtain ⟨t, rfl⟩ := rx
  obtain ⟨t', rfl⟩ := ry
  exact add_str (fun t' tk => ⟨.str (i ++ j), H, I.tok _, ⟨_, rfl⟩, q⟩) hz
theorem vals1 {x : V} {us : List Value} (r : Vals [x] us) : ∃ u, us = [u] /\ RelV x u := by
  cases r with
  | cons r1 r2 => cases r2; exact ⟨_, rfl, r1⟩
theorem vals2 {x y : V} {us : List Value} (r : Vals [x, y] us) : ∃ u w', us = [u, w'] /\ RelV x u /\ RelV y w' := by
  cases r with
  | cons r1 r2 =>
    cases r2 with
    | cons r3 r4 => cases r4; exact ⟨_, _, rfl, r1, r3⟩
theorem zmD : CallR X (.builtin "abs") (fun xs H Q => ∃ i, xs = [.int i] /\ Q (.int (if i < 0 then -i else i)) H) := by
  intro pins s σ H xs us Q I r h
  obtain ⟨i, rfl, q⟩ := h
  obtain ⟨u, rfl, t, rfl⟩ := vals1 r
  exact call_abs_int fun u tk => ⟨.int (if i < 0 then -i else i), H, I.tok _, ⟨_, rfl⟩, q⟩
theorem zlO (hc : X.calm = true) : CallR X (.builtin "min") (fun xs H Q => ∃ i j, xs = [.int i, .int j] /\ Q (.int (if j < i then j else i)) H) := by
  intro pins s σ H xs us Q I r h
  obtain ⟨i, j, rfl, q⟩ := h
  obtain ⟨u, w', rfl, ⟨t, rfl⟩, ⟨t', rfl⟩⟩ := vals2 r
  refine min_two_ints (I.ok.hd hc) fun h' tk k => ⟨_, H, I.kept k, ?_, q⟩
  by_cases hj : j < i
  · rw [if_pos hj, if_pos hj]; exact ⟨_, rfl⟩
  · rw [if_neg hj, if_neg hj]; exact ⟨_, rfl⟩
theorem zix : CallR X (.type "int") (fun xs H Q => (∃ i, xs = [.int i] /\ Q (.int i) H) \/ ∃ k, xs = [.bl k] /\ Q (.int (if k then 1 else 0)) H) := by
  intro pins s σ H xs us Q I r h
  rcases h with ⟨i, rfl, q⟩ | ⟨k, rfl, q⟩
  · obtain ⟨u, rfl, t, rfl⟩ := vals1 r
    exact call_int_int ⟨.int i, H, I, ⟨_, rfl⟩, q⟩
  · obtain ⟨u, rfl, r1⟩ := vals1 r
    cases r1
    exact call_int_bool ⟨.int (if k then 1 else 0), H, I.tok _, ⟨_, rfl⟩, q⟩
end
end L2
namespace L2
open PySem PySem.Spec PyProof.Rows
section
variable {prog : Program} {w : World} {A : Around} {E : Value -> Shared -> Prop} {s : Shared} {K : PySem.W.Frag} {x dx C f : Addr} {mA : Str -> Option Value} {name : Str} {v : Value}
end
section
variable {P : Program} {w : World} {H H' : Hp} {h h' : Heap} {a C dx : Addr} {fs fs' : List (Str × V)}
end
section
variable {X : Cx} {pins : List (Addr × Obj)} {σ : St} {H : Hp} {s : Shared} {a C dx : Addr} {fs : List (Str × V)} {f : Str} {v : V} {A : Around} {E : Value -> Shared -> Prop}
end
section
variable {X : Cx} {o e value : Expr} {f : Str} {pos pos' tpos : Pos} {ta tv : TE}
end
section
variable {X : Cx} {pins : List (Addr × Obj)} {σ : St} {H : Hp} {s : Shared} {A : Around} {E : Value -> Shared -> Prop} {Q : Value -> Shared -> Prop} {c : Value} {b : Bool}
end
end L2
namespace L2
open PySem PySem.Spec PyProof.Rows
structure Room (k : Nat) (A : Around) : Prop where
  hd : A.handled = none
  dp : A.depth + 3 * k + 5 < recursionLimit
  un : A.units + 16 * k + 200 < cLine
theorem Room.deeper {k : Nat} {A : Around} (r : Room (k + 1) A) (env : Env) : Room k (A.deeper env) :=
  ⟨r.hd, by have := r.dp; show A.depth + 1 + 3 * k + 5 < _; omega, by have := r.un; show A.units + 3 + 16 * k + 200 < _; omega⟩
theorem Room.depth {k : Nat} {A : Around} (r : Room k A) : A.depth < recursionLimit := by have := r.dp; omega
theorem Room.units {k : Nat} {A : Around} (r : Room k A) : A.units + 64 < cLine := by have := r.un; omega
def tNil : TA := fun _ H Q => Q [] H
def tCons (ta : TE) (tr : TA) : TA := fun σ H Q => ta σ H fun x H1 => tr σ H1 fun xs H2 => Q (x :: xs) H2
section
variable {X : Cx} {e : Expr} {es : List Expr} {te : TE} {t : TA} {pos : Pos}
theorem pa_nil : PA X [] tNil := fun _ _ _ _ H Q I h => Calls.spliced_nil ⟨[], H, I, .nil, h⟩
theorem zdf (ha : PE X e te) (hr : PA X es t) (hs : starEach (e :: es) X.env = (false, eval e X.env) :: starEach es X.env := by rfl) : PA X (e :: es) (tCons te t) := by
  intro pos pins s σ H Q I h
  rw [hs]
  show wpAny _ _ (spliced ((false, eval e X.env) :: backTo pos (starEach es X.env))) _ _ s
  refine Calls.spliced_cons (thn (ha pins s σ H _ I h) fun u s1 ⟨x, H1, I1, r1, q1⟩ => ?_)
  exact thn (hr pos pins s1 σ H1 _ I1 q1) fun us s2 ⟨xs, H2, I2, r2, q2⟩ => ⟨x :: xs, H2, I2, .cons r1 r2, q2⟩
def tTup (t : TA) : TE := fun σ H Q => t σ H fun xs H1 => xs.length <= sizeLine /\ ∀ p, H1 p = none -> Q (.ref p) (upd H1 p (.tup xs))
def tLst (t : TA) : TE := fun σ H Q => t σ H fun xs H1 => xs.length <= sizeLine /\ ∀ p, H1 p = none -> Q (.ref p) (upd H1 p (.lst xs))
theorem zp5 {x1} (h : PA X es t) : PE X (.Tuple es x1 pos) (tTup t) := by
  intro pins s σ H Q I hq
  refine wpAny_Tuple_spliced (thn (h pos pins s σ H _ I hq) fun us s1 ⟨xs, H1, I1, r, z, q⟩ => ⟨by rw [<- r.length]; exact z, ?_⟩)
  have hf : H1 s1.heap.objs.size = none := I1.hok.fresh (Nat.le_refl _)
  refine ⟨.ref s1.heap.objs.size, upd H1 s1.heap.objs.size (.tup xs), I1.laid (t' := s1.toks) (fun b u e => Heap.get?_push_of_some _ e) (Nat.le_refl _) ?_, rfl, q _ hf⟩
  exact ⟨z, us, r, ⟨_, Heap.get?_push_size _ rfl, rfl, _, rfl⟩⟩
theorem znI (h : PA X es t) : PE X (.List es pos) (tLst t) := by
  intro pins s σ H Q I hq
  refine wpAny_List_spliced (thn (h pos pins s σ H _ I hq) fun us s1 ⟨xs, H1, I1, r, z, q⟩ => ⟨by rw [<- r.length]; exact z, ?_⟩)
  have hf : H1 s1.heap.objs.size = none := I1.hok.fresh (Nat.le_refl _)
  refine ⟨.ref s1.heap.objs.size, upd H1 s1.heap.objs.size (.lst xs), I1.laid (t' := s1.toks) (fun b u e => Heap.get?_push_of_some _ e) (Nat.le_refl _) ?_, rfl, q _ hf⟩
  exact ⟨z, us, 0, r, Heap.get?_push_size _ rfl⟩
end
abbrev Sp := List V -> Hp -> VK -> XK -> Prop
abbrev CXT := List Env -> Hp -> Shared -> XK -> Value -> Shared -> Prop
structure Env0 (P : Program) (w : World) (K : PySem.W.Frag) (mg : Str -> Option Value) (base : Heap) (A : Around) (outer : List Env) (s : Shared) (H : Hp) : Prop where
  frames : A.frames = some outer
  mod : Mod K mg base
  bs : ∀ b o, base.get? b = some o -> s.heap.get? b = some o /\ H b = none
  bsz : base.objs.size <= s.heap.objs.size
  funs : s.heap.FunFrames base outer
  frf : ∀ b ∈ frs outer, H b = none
  hok : HOk P w H s.heap
  bare : AllBare s.gens
def CE (outer : List Env) (P : Program) (w : World) (H : Hp) (s : Shared) (Q : VK) (u : Value) (s' : Shared) : Prop :=
  ∃ v H', s'.os = s.os /\ AllBare s'.gens /\ Un (frs outer) [] H H' s.heap s'.heap /\ HOk P w H' s'.heap /\ RelV v u /\ Q v H'
def CR (CX : CXT) (outer : List Env) (P : Program) (w : World) (H : Hp) (s : Shared) (Q : VK) (E : XK) (r : Result) (s' : Shared) : Prop :=
  match r with
  | .ok (.ret u) => CE outer P w H s Q u s'
  | .ok _ => False
  | .error e => CX outer H s E e s'
structure FnOk (P : Program) (w : World) (K : PySem.W.Frag) (mg : Str -> Option Value) (base : Heap) (CX : CXT) (k : Nat) (f : Addr) (fd : FuncData) (ps : List Str) (sp : Sp) : Prop where
  len : ∀ vs H Q E, sp vs H Q E -> vs.length = ps.length
  run : ∀ (A : Around) (outer : List Env) (s : Shared) (H : Hp) (args : Args) (us : List Value) (vs : List V) (Q : VK) (E : XK), Room k A -> Env0 P w K mg base A outer s H -> BindsTo s fd args (ps.zip us) -> Vals vs us -> sp vs H Q E ->
    codeAny (model P w) A (.call (.ref f) args) (CR CX outer P w H s Q E) s
section
variable {X : Cx} {pins : List (Addr × Obj)} {σ : St} {H : Hp} {s s' : Shared}
theorem Inv.env0 (I : Inv X pins σ H s) : Env0 X.prog X.w X.K X.mg X.base X.A X.stack s H :=
  ⟨I.ok.frames, I.ok.mod, I.bs, Nat.le_trans I.ok.bsz I.sz, I.stack, I.stkFree, I.hok, I.bare⟩
theorem Inv.after {Q : VK} {u : Value} (I : Inv X pins σ H s) (h : CE X.stack X.prog X.w H s Q u s') : EP X pins σ Q u s' := by
  obtain ⟨v, H', os, bare, un, hok, r, q⟩ := h
  obtain ⟨hh, g, d, t, os'⟩ := s'
  obtain rfl : os' = s.os := os
  exact ⟨v, H', I.call (h' := hh) (g' := g) (d' := d) (t' := t) (ch := []) un hok bare (fun b z => absurd z (by simp)), r, q⟩
end
def Binds (K : PySem.W.Frag) (fd : FuncData) (ps : List Str) (ds : List Value) : Prop :=
  ∀ (s : Shared) (us : List Value), K.In s.heap -> (us ++ ds).length = ps.length -> BindsTo s fd ⟨us, []⟩ (ps.zip (us ++ ds))
theorem Binds.all {K : PySem.W.Frag} {fd : FuncData} {ps : List Str} (h : ∀ us : List Value, us.length = ps.length -> bindArgs fd ⟨us, []⟩ = pure (ps.zip us)) : Binds K fd ps [] := fun s us _ hl => by
  rw [List.append_nil] at hl ⊢
  exact .of_eq (h us hl)
def Passes (CX : CXT) (X : Cx) (E : XK) : Prop := ∀ (pins : List (Addr × Obj)) (σ : St) (H : Hp) (s : Shared) (e : Value) (s' : Shared), Inv X pins σ H s -> CX X.stack H s E e s' -> X.xe e s'
section
variable {X : Cx} {CX : CXT} {k : Nat} {f C : Addr} {fd : FuncData} {ps : List Str} {sp : Sp} {dvs : List V} {ds : List Value} {E : XK} {x m : Str} {p pos apos : Pos} {e o : Expr} {es : List Expr} {ta : TE} {t : TA}
end
def PK (X : Cx) (kws : List Keyword) (t : TA) : Prop :=
  ∀ (pos : Pos) (pins : List (Addr × Obj)) (s : Shared) (σ : St) (H : Hp) (Q : List V -> Hp -> Prop), Inv X pins σ H s -> t σ H Q -> wpAny (model X.prog X.w) X.A (evalAll ((backToKw pos (keywordEach kws X.env)).map (·.2))) (AP X pins σ Q) X.xe s
section
variable {X : Cx} {CX : CXT} {k : Nat} {f C : Addr} {fd : FuncData} {ps ks : List Str} {sp : Sp} {E : XK} {x m : Str} {p pos apos kpos : Pos} {e o : Expr} {es : List Expr} {kws : List Keyword} {te ta : TE} {t tk : TA} {nm : Option Str}
theorem pk_nil : PK X [] tNil := fun _ _ _ _ H Q I h => wpAny_evalAll_nil ⟨[], H, I, .nil, h⟩
theorem zoG (ha : PE X e te) (hr : PK X kws t) : PK X (⟨nm, e, kpos⟩ :: kws) (tCons te t) := by
  intro pos pins s σ H Q I h
  show wpAny _ _ (evalAll ((do let v <- eval e X.env; standAt pos; pure v) :: (backToKw pos (keywordEach kws X.env)).map (·.2))) _ _ s
  refine wpAny_evalAll_cons (wpAny_bind (thn (ha pins s σ H _ I h) fun u s1 ⟨x, H1, I1, r1, q1⟩ => wpAny_bind (wpAny_standAt (wpAny_pure ?_))))
  exact thn (hr pos pins s1 σ H1 _ I1 q1) fun us s2 ⟨xs, H2, I2, r2, q2⟩ => ⟨x :: xs, H2, I2, .cons r1 r2, q2⟩
structure KBinds (K : PySem.W.Frag) (fd : FuncData) (ps ks : List Str) (g : List Value -> List Value -> List Value) (gV : List V -> List V -> List V) : Prop where
  to : ∀ (s : Shared) (us ws : List Value), K.In s.heap -> (g us ws).length = ps.length -> BindsTo s fd ⟨us, ks.zip ws⟩ (ps.zip (g us ws))
  rel : ∀ {vs : List V} {us : List Value} {zs : List V} {ws : List Value}, Vals vs us -> Vals zs ws -> Vals (gV vs zs) (g us ws)
variable {g : List Value -> List Value -> List Value} {gV : List V -> List V -> List V}
end
structure FnScope (N P : List Str) (sc : Scope) : Prop where
  kind : sc.kind = .function
  co : sc.isCoroutine = false
  gen : sc.isGenerator = false
  nd : N.Nodup
  pre : N.take P.length = P
  par : ∀ x ∈ P, sc.names.lookup x = some .local \/ sc.names.lookup x = some .cell
  nofree : ∀ y ∈ sc.names, y.2 ≠ .free
theorem zhT {kindOf : Str -> Option NameKind} {x : Str} : ∀ {binds : List (Str × Value)} {m : Str -> Option Value}, (∀ v, (x, v) ∉ binds) -> bindL kindOf binds m x = m x
  | [], _, _ => rfl
  | (n, v) :: r, m, h => by
    unfold bindL
    rw [zhT fun w hw => h w (List.mem_cons_of_mem _ hw)]
    split
    · have : x ≠ n := by rintro rfl; exact h v List.mem_cons_self
      simp [this]
    · rfl
theorem zig {kindOf : Str -> Option NameKind} {x : Str} : ∀ {binds : List (Str × Value)} {m : Str -> Option Value}, (∀ v, (x, v) ∉ binds) -> bindC kindOf binds m x = m x
  | [], _, _ => rfl
  | (n, v) :: r, m, h => by
    unfold bindC
    rw [zig fun w hw => h w (List.mem_cons_of_mem _ hw)]
    split
    · rfl
    · have : x ≠ n := by rintro rfl; exact h v List.mem_cons_self
      simp [this]
theorem zhL {kindOf : Str -> Option NameKind} {x : Str} {v : Value} : ∀ {P : List Str} {vs : List Value} {i : Nat} {m : Str -> Option Value}, P.Nodup -> P[i]? = some x -> vs[i]? = some v -> kindOf x = some .local ->
    bindL kindOf (P.zip vs) m x = some v
  | [], _, _, _, _, h, _, _ => by simp at h
  | _ :: _, [], _, _, _, _, h, _ => by simp at h
  | p :: P, w :: vs, 0, m, nd, h1, h2, hk => by
    simp at h1 h2; subst h1; subst h2
    show bindL kindOf ((p, w) :: P.zip vs) m p = _
    unfold bindL
    rw [zhT fun v hv => (List.nodup_cons.mp nd).1 (List.of_mem_zip hv).1, if_pos hk]
    simp
  | p :: P, w :: vs, i + 1, m, nd, h1, h2, hk => by
    show bindL kindOf ((p, w) :: P.zip vs) m x = _
    unfold bindL
    exact zhL (i := i) (List.nodup_cons.mp nd).2 (by simpa using h1) (by simpa using h2) hk
theorem ziu {kindOf : Str -> Option NameKind} {x : Str} {v : Value} : ∀ {P : List Str} {vs : List Value} {i : Nat} {m : Str -> Option Value}, P.Nodup -> P[i]? = some x -> vs[i]? = some v -> kindOf x ≠ some .local ->
    bindC kindOf (P.zip vs) m x = some v
  | [], _, _, _, _, h, _, _ => by simp at h
  | _ :: _, [], _, _, _, _, h, _ => by simp at h
  | p :: P, w :: vs, 0, m, nd, h1, h2, hk => by
    simp at h1 h2; subst h1; subst h2
    show bindC kindOf ((p, w) :: P.zip vs) m p = _
    unfold bindC
    rw [zig fun v hv => (List.nodup_cons.mp nd).1 (List.of_mem_zip hv).1, if_neg hk]
    simp
  | p :: P, w :: vs, i + 1, m, nd, h1, h2, hk => by
    show bindC kindOf ((p, w) :: P.zip vs) m x = _
    unfold bindC
    exact ziu (i := i) (List.nodup_cons.mp nd).2 (by simpa using h1) (by simpa using h2) hk
def start (N : List Str) (vs : List V) : St := vs.map some ++ List.replicate (N.length - vs.length) none
def cxOf (CX : CXT) (P : Program) (w : World) (K : PySem.W.Frag) (mg : Str -> Option Value) (base : Heap) (N : List Str) (qual : Str) (scope : Scope) (f : Addr) (cd : Value) (A : Around) (outer : List Env) (s : Shared) (H : Hp) (E : XK) : Cx where
  prog := P
  w := w
  K := K
  mg := mg
  base := base
  A := A.deeper (envOfC qual scope s.heap.objs.size f cd)
  N := N
  s₀ := s
  H₀ := H
  env := envOfC qual scope s.heap.objs.size f cd
  outer := outer
  stack := envOfC qual scope s.heap.objs.size f cd :: outer
  ex := []
  calm := true
  fn := fun _ => true
  pn := []
  xe := fun e s' => wpAny (model P w) (A.deeper (envOfC qual scope s.heap.objs.size f cd)) (leaving (envOfC qual scope s.heap.objs.size f cd) e) (fun _ s'' => CX outer H s E e s'') (fun e' s'' => CX outer H s E e' s'') s'
theorem zjn {sc : Scope} {n : Nat} {x : Str} (h : sc.names.lookup x = some .cell) : ∃ c, (cellsFrom n sc.names []).lookup x = some c := by
  have q := PySem.W.cellsFrom_some sc.names n [] (.inl h)
  exact Option.isSome_iff_exists.mp q
theorem zl5 {CX : CXT} {P : Program} {w : World} {K : PySem.W.Frag} {mg : Str -> Option Value} {base : Heap} {N ps : List Str} {qual : Str} {scope : Scope} {f : Addr} {cd : Value} {A : Around} {outer : List Env} {s s1 : Shared} {H : Hp} {E : XK} {us : List Value} {vs : List V}
    (S : FnScope N ps scope) (hd : A.handled = none) (e0 : Env0 P w K mg base A outer s H) (hl : vs.length = ps.length) (r : Vals vs us)
    (x : InCallC s s.heap.objs.size (bindL (envOfC qual scope s.heap.objs.size f cd).kindOf (ps.zip us) fun _ => none) (cellsFrom (s.heap.objs.size + 1) scope.names []) (bindC (envOfC qual scope s.heap.objs.size f cd).kindOf (ps.zip us) fun _ => none) s1) :
    Inv (cxOf CX P w K mg base N qual scope f cd A outer s H E) [] (start N vs) H s1 := by
  have hpl : ps.length <= N.length := by have := congrArg List.length S.pre; rw [List.length_take] at this; omega
  obtain ⟨h1, tk, rfl, hk⟩ := x.done
  have noA : ∀ b : Addr, b ∉ (cxOf CX P w K mg base N qual scope f cd A outer s H E).ex := fun b z => absurd (show b ∈ ([] : List Addr) from z) (by simp)
  refine ⟨⟨e0.mod, S.kind, rfl, rfl, Nat.le_refl _, fun y z c h1 h2 => ?_, fun y hy => ?_, fun y c _ h => ?_, fun _ => hd, Around.frames_deeper e0.frames, .inr ⟨rfl, rfl⟩, fun b z => absurd z (noA b), e0.bs, e0.bsz, fun b _ _ => noA b, fun b z => absurd z (noA b), e0.funs, e0.frf⟩,
    rfl, e0.bare, Un.kept hk, ⟨_, x.toInCall.ns, fun i y v h1 h2 h3 => ?_⟩, fun y c h => ⟨_, x.cell y c h⟩, e0.hok.fresh (Nat.le_refl _), fun y c h => ?_, fun p hp => absurd (show p ∈ ([] : List (Addr × Obj)) from hp) (by simp), e0.hok.kept hk, ?_⟩
  · exact name_of_addr x.apart (PySem.mem_of_lookup h1) (PySem.mem_of_lookup h2)
  · have hy : scope.names.lookup y = some .cell \/ scope.names.lookup y = some .free := hy
    rcases hy with hy | hy
    · exact zjn hy
    · exact absurd rfl (S.nofree _ (PySem.mem_of_lookup hy))
  · exact Nat.le_of_lt (x.above y c (PySem.mem_of_lookup h))
  · have hi : i < vs.length := by
      unfold start at h2
      by_cases hi : i < vs.length
      · exact hi
      · rw [List.getElem?_append_right (by simpa using hi)] at h2
        rw [List.getElem?_replicate] at h2
        split at h2 <;> cases h2
    have ha : vs[i]? = some v := by
      unfold start at h2
      rw [List.getElem?_append_left (by simpa using hi), List.getElem?_map] at h2
      cases e : vs[i]? with
      | none => rw [e] at h2; cases h2
      | some a => rw [e] at h2; cases h2; rfl
    obtain ⟨u, hu, rv⟩ := r.get ha
    have hp : ps[i]? = some y := by
      rw [<- S.pre, List.getElem?_take_of_lt (by omega)]; exact h1
    have ndP : ps.Nodup := by rw [<- S.pre]; exact S.nd.sublist (List.take_sublist _ _)
    refine ⟨u, rv, ?_⟩
    rcases S.par y (List.mem_of_getElem? hp) with k | k
    · exact .inl ⟨k, zhL ndP hp hu k⟩
    · obtain ⟨c, e⟩ := zjn (n := s.heap.objs.size + 1) k
      refine .inr ⟨.inl k, c, e, ?_⟩
      have q := x.cell y c e
      rw [ziu ndP hp hu (by show scope.names.lookup y ≠ _; rw [k]; decide)] at q
      exact q
  · exact e0.hok.fresh (Nat.le_of_lt (x.above y c (PySem.mem_of_lookup h)))
  · unfold start
    show _ = N.length
    rw [List.length_append, List.length_map, List.length_replicate]
    omega
theorem zp2 {CX : CXT} {P : Program} {w : World} {K : PySem.W.Frag} {mg : Str -> Option Value} {base : Heap} {k : Nat} {f : Addr} {name qual : Str} {params : Arguments} {body : List Stmt} {scope : Scope} {dV kV doc pm cdv ct oc : Value} {an od : Option Addr}
    {osl : Array (Option Value)} {N ps : List Str} {sp : Sp} (lk : K.lookup f = some ⟨oc, od, .func (PySem.W.fnOf name qual params body scope dV kV doc pm an cdv ct), osl⟩) (hcd : PySem.W.codeIn K cdv qual = true) (S : FnScope N ps scope)
    (len : ∀ vs H Q E, sp vs H Q E -> vs.length = ps.length)
    (hbody : ∀ (A : Around) (outer : List Env) (s : Shared) (H : Hp) (vs : List V) (Q : VK) (E : XK), Room k (A.deeper (envOfC qual scope s.heap.objs.size f cdv)) -> sp vs H Q E ->
      ∃ t, PSs (cxOf CX P w K mg base N qual scope f cdv A outer s H E) body t /\ t { nx := fun _ H' => Q .non H', rt := Q } (start N vs) H) :
    FnOk P w K mg base CX (k + 1) f (PySem.W.fnOf name qual params body scope dV kV doc pm an cdv ct) ps sp := by
  refine ⟨len, fun A outer s H args us vs Q E hr e0 hb r hsp => ?_⟩
  have hl := len _ _ _ _ hsp
  have KX : K.In s.heap := e0.mod.kin.keeps fun b o e => (e0.bs b o e).1
  have lim : s.heap.NoLimit := e0.mod.nolimit.keeps fun b o e => (e0.bs b o e).1
  have hkind : ∀ y ∈ ps.zip us, scope.names.lookup y.1 = some .local \/ (scope.names.lookup y.1 = some .cell /\ ((cellsFrom (s.heap.objs.size + 1) scope.names []).lookup y.1).isSome = true) := fun ⟨n, v⟩ hy => by
    rcases S.par n (List.of_mem_zip hy).1 with q | q
    · exact .inl q
    · exact .inr ⟨q, PySem.W.cellsFrom_some _ _ _ (.inl q)⟩
  refine codeAny_call_function hr.depth (KX _ _ lk) rfl S.co S.gen rfl (PySem.W.codeRec_of KX hcd) (hb _ _ _ _ ?_)
  refine wpAny_newFunctionEnv_cells S.kind hkind fun env he s1 x => ?_
  subst he
  refine ⟨lim.keeps x.toInCall.keep, codeAny_func ?_⟩
  obtain ⟨t, ht, hq⟩ := hbody A outer s H vs Q E (hr.deeper _) hsp
  have I : Inv (cxOf CX P w K mg base N qual scope f cdv A outer s H E) [] (start N vs) H s1 := zl5 S hr.hd e0 hl r x
  refine wpAny_mono (ht [] s1 (start N vs) H _ I hq) (fun fl s' hs => ?_) fun e s' hs => hs
  have fin : ∀ {σ' : St} {H' : Hp} {v : V} {u : Value}, Inv (cxOf CX P w K mg base N qual scope f cdv A outer s H E) [] σ' H' s' -> RelV v u -> Q v H' -> CE outer P w H s Q u s' :=
    fun {σ' H' v u} J rv q => ⟨v, H', J.os, J.bare, J.base, J.hok, rv, q⟩
  cases fl with
  | ret u =>
    obtain ⟨v, σ', H', J, rv, q⟩ := hs
    exact fin J rv q
  | next =>
    obtain ⟨σ', H', J, q⟩ := hs
    exact fin (v := V.non) (u := Value.none) J rfl q
  | brk =>
    obtain ⟨_, _, _, q⟩ := hs
    exact False.elim q
  | cont =>
    obtain ⟨_, _, _, q⟩ := hs
    exact False.elim q
end L2
namespace L2
open PySem PySem.Spec PyProof.Rows
section
variable {X : Cx} {x : Str} {p pos : Pos} {e : Expr} {es : List Expr} {t : TA} {id T : String} {r : List V -> Hp -> VK -> Prop}
def tCB (r : List V -> Hp -> VK -> Prop) (t : TA) : TE := fun σ H Q => t σ H fun vs H1 => r vs H1 Q
theorem zjM (hc : CallR X (.builtin id) r) (hg : Gl X x) (hm : X.mg x = none) (hv : bootBuiltins x = some (.builtin id)) (ha : PA X (e :: es) t) (hn : x ≠ "__name__" := by decide) (hdb : (x == ("__debug__" : Str)) = false := by decide)
    (he : starEach (e :: es) X.env = (false, eval e X.env) :: starEach es X.env := by rfl) (hpl : (backTo pos (starEach es X.env)).any (·.1) = false := by rfl) : PE X (.Call (.Name x p) (e :: es) [] pos) (tCB r t) := by
  intro pins s σ H Q I h
  refine wpAny_Call_Name_kw (zg5 I hg hm hv ?_ hn hdb)
  exact PyProof.Rows.callWith_builtin1 (thn (ha pos pins s σ H _ I h) fun us s1 ⟨vs, H1, I1, r1, q1⟩ => hc pins s1 σ H1 vs us Q I1 r1 q1) he hpl
theorem zmk (hc : CallR X (.type T) r) (hg : Gl X x) (hm : X.mg x = none) (hv : bootBuiltins x = some (.type T)) (ha : PA X (e :: es) t) (hn : x ≠ "__name__" := by decide) (hdb : (x == ("__debug__" : Str)) = false := by decide)
    (he : starEach (e :: es) X.env = (false, eval e X.env) :: starEach es X.env := by rfl) (hpl : (backTo pos (starEach es X.env)).any (·.1) = false := by rfl) : PE X (.Call (.Name x p) (e :: es) [] pos) (tCB r t) := by
  intro pins s σ H Q I h
  refine wpAny_Call_Name_kw (zg5 I hg hm hv ?_ hn hdb)
  exact PyProof.Rows.callWith_type1 (thn (ha pos pins s σ H _ I h) fun us s1 ⟨vs, H1, I1, r1, q1⟩ => hc pins s1 σ H1 vs us Q I1 r1 q1) he hpl
end
end L2
namespace HT
open PySem PyProof.Rows
section
open PySem.SeqAt
open PySem.AutoSeq1 (wpAny_loadPart')
open PySem.MeetsSeq PySem.MeetsSeq2 PySem.MeetsSeq3
end
section
variable {prog : Program} {w : World} {A : Around} {E : Value -> Shared -> Prop} {s : Shared}
theorem cat_tup {t b : Addr} {vs ws : List Value} {Q : Value -> Shared -> Prop} (ht : IsTup s.heap t vs.toArray) (hb : IsTup s.heap b ws.toArray) (hv : vs ≠ [])
    (h1 : ws = [] -> Q (.ref t) s) (h2 : ws ≠ [] -> Q (.ref s.heap.objs.size) { s with heap := s.heap.push { cls := .type "tuple", data := .seq (vs ++ ws).toArray } })
    (hsz : vs.length + ws.length <= sizeLine) : wpAny (model prog w) A (binaryOp .Add (.ref t) (.ref b)) Q E s := by
  obtain ⟨⟨cls, dd, data, sl⟩, ho, hc, n, hd⟩ := id ht
  obtain ⟨⟨cls2, dd2, data2, sl2⟩, ho2, hc2, n2, hd2⟩ := id hb
  simp only at hc hd hc2 hd2
  subst hc hd hc2 hd2
  have e : vs.toArray ++ ws.toArray = (vs ++ ws).toArray := by simp
  by_cases hw : ws = []
  · exact concat_meets ⟨_, ho, rfl⟩ ⟨_, ho2, rfl⟩ noFill_tuple_add seq_tuple_add PySem.F.slot_tuple_add PySem.F.entry_tuple_add (PySem.F.args_tuple_add_2 _ _)
      (tuple_addW1 t b vs.toArray ws.toArray n n2 dd dd2 sl sl2 (by simpa using hv) (by simp [hw])) ⟨ho, ho2, h1 hw⟩
  · refine concat_meets ⟨_, ho, rfl⟩ ⟨_, ho2, rfl⟩ noFill_tuple_add seq_tuple_add PySem.F.slot_tuple_add PySem.F.entry_tuple_add (PySem.F.args_tuple_add_2 _ _)
      (tuple_addW2 t b vs.toArray ws.toArray n n2 dd dd2 sl sl2 (by simpa using hv) (by simpa using hw) (by rw [List.size_toArray, List.size_toArray]; exact hsz)) ⟨ho, ho2, ?_⟩
    rw [e]
    exact h2 hw
def sIx (n d : Nat) : Option Int -> Nat
  | none => d
  | some v => if v < 0 then (v + (n : Int)).toNat else min v.toNat n
theorem zpH (n d : Nat) (hd : d <= n) (o : Option Int) : sIx n d o <= n := by
  cases o with
  | none => exact hd
  | some v =>
    show (if v < 0 then (v + (n : Int)).toNat else min v.toNat n) <= n
    by_cases hv : v < 0
    · rw [if_pos hv]; omega
    · rw [if_neg hv]; exact Nat.min_le_right _ _
theorem zlQ (v : Int) (n d : Nat) : (if v < 0 then max (v + (n : Int)) 0 else min v (n : Int)) = ((sIx n d (some v) : Nat) : Int) := by
  show (if v < 0 then max (v + (n : Int)) 0 else min v (n : Int)) = (((if v < 0 then (v + (n : Int)).toNat else min v.toNat n) : Nat) : Int)
  by_cases hv : v < 0
  · simp only [if_pos hv]; omega
  · simp only [if_neg hv]; omega
theorem zj8 (lo hi : Option Int) (n : Nat) : Builtin.Slice.sliceAdjust lo hi 1 (n : Int) = (((sIx n 0 lo : Nat) : Int), ((sIx n n hi : Nat) : Int)) := by
  have h1 : ¬ ((1 : Int) < 0) := by omega
  unfold Builtin.Slice.sliceAdjust
  simp only [h1, if_false]
  refine Prod.ext ?_ ?_
  · cases lo with
    | none => rfl
    | some v => exact zlQ v n 0
  · cases hi with
    | none => rfl
    | some v => exact zlQ v n n
theorem zki (i j : Nat) : Builtin.Slice.slicePlaces (i : Int) (j : Int) 1 = j - i := by
  unfold Builtin.Slice.slicePlaces
  have h1 : (1 : Int) > 0 := by omega
  simp only [h1, if_true, Int.ediv_one]
  split <;> omega
theorem zgV {v : Value} {o : Option Int} {Q : Option Int -> Shared -> Prop} (p : IsPart v o) (h : Q o s) : wpAny (model prog w) A (Builtin.Slice.slicePartIndex v) Q E s := by
  cases p with
  | none => exact slicePart_none h
  | int i t => exact slicePart_int h
theorem zfp {sl : Addr} {vl vu : Value} {lo hi : Option Int} {n : Nat} {Q : Int × Int × Nat -> Shared -> Prop} (hs : s.heap.IsSliceOf sl vl vu .none) (pl : IsPart vl lo) (pu : IsPart vu hi)
    (h : Q (((sIx n 0 lo : Nat) : Int), 1, sIx n n hi - sIx n 0 lo) s) : wpAny (model prog w) A (Builtin.Slice.sliceApplied (.ref sl) (pure (n : Int))) Q E s := by
  obtain ⟨os, hos, hcs, hds⟩ := id hs
  unfold Builtin.Slice.sliceApplied Builtin.Slice.sliceFields
  refine wpAny_bind (wpAny_bind (wpAny_field hos hds (x := vl) rfl (wpAny_bind (wpAny_field hos hds (x := vu) rfl (wpAny_bind (wpAny_field hos hds (x := .none) rfl (wpAny_pure ?_)))))))
  refine wpAny_bind (slicePart_none ?_)
  show wpAny _ _ (if ((1 : Int) == 0) = true then _ else _) _ _ s
  rw [if_neg (by decide)]
  refine wpAny_bind (zgV pl (wpAny_bind (zgV pu (wpAny_bind (wpAny_pure ?_)))))
  show wpAny _ _ (match Builtin.Slice.sliceAdjust lo hi 1 (n : Int) with | (lo, hi) => pure (lo, (1 : Int), Builtin.Slice.slicePlaces lo hi 1)) _ _ s
  rw [zj8 lo hi n]
  show wpAny _ _ (pure (((sIx n 0 lo : Nat) : Int), (1 : Int), Builtin.Slice.slicePlaces ((sIx n 0 lo : Nat) : Int) ((sIx n n hi : Nat) : Int) 1)) _ _ s
  rw [zki]
  exact wpAny_pure h
theorem zmU (xs : Array Value) (i k : Nat) : ((List.range k).filterMap fun (m : Nat) => xs[((i : Int) + (m : Int) * 1).toNat]?).toArray = ((xs.toList.drop i).take k).toArray := by
  have e : (fun (m : Nat) => xs[((i : Int) + (m : Int) * 1).toNat]?) = fun m => xs[i + m]? := by
    funext m
    have : ((i : Int) + (m : Int) * 1).toNat = i + m := by omega
    rw [this]
  rw [e]
  have := pick_run xs i k
  rw [List.filterMap_map] at this
  have e2 : ((fun x => xs[x]?) ∘ fun x => i + x) = fun m => xs[i + m]? := rfl
  rw [e2] at this
  rw [this]
theorem getItem_tuple_cut {t sl : Addr} {items : Array Value} {vl vu : Value} {lo hi : Option Int} {Q : Value -> Shared -> Prop} (ht : IsTup s.heap t items) (hs : s.heap.IsSliceOf sl vl vu .none) (pl : IsPart vl lo) (pu : IsPart vu hi)
    (hw : ¬ (sIx items.size 0 lo = 0 /\ sIx items.size items.size hi = items.size))
    (h : Q (.ref s.heap.objs.size) { s with heap := s.heap.push { cls := .type "tuple", data := .seq ((items.toList.drop (sIx items.size 0 lo)).take (sIx items.size items.size hi - sIx items.size 0 lo)).toArray } })
    (hsz : items.size <= sizeLine) : wpAny (model prog w) A (getItem (.ref t) (.ref sl)) Q E s := by
  have htake : sizeOk (.seq ((items.toList.drop (sIx items.size 0 lo)).take (sIx items.size items.size hi - sIx items.size 0 lo)).toArray) := by
    show ((items.toList.drop (sIx items.size 0 lo)).take (sIx items.size items.size hi - sIx items.size 0 lo)).toArray.size <= sizeLine
    rw [List.size_toArray, List.length_take, List.length_drop, Array.length_toList]
    omega
  have hj : sIx items.size items.size hi <= items.size := zpH _ _ (Nat.le_refl _) hi
  obtain ⟨os, hos, hcs, hds⟩ := id hs
  have hTs : s.TypeIs (.ref sl) "slice" := ⟨os, hos, hcs⟩
  unfold getItem
  try with_reducible refine wpAny_holding ?_
  first | refine wpAny_bind (wpAny_pure ?_) | skip
  refine wpAny_bind (wpAny_sequenceKey ht.typeIs (by decide) ?_)
  refine wpAny_bind (wpAny_callSpecial?_slot (name := Str.ofString "__getitem__") ht.typeIs PyProof.Rows.slot_tuple_getitem
    (wpAny_call_entry PyProof.Rows.slot_tuple_getitem ht.typeIs entry_tuple_getitem ?_ (args_tuple_getitem _ _)))
  show wpAny _ _ (Builtin.Tuple.tupleItemsOf (.ref t) >>= _) _ _ s
  refine wpAny_bind (tupleItemsOf_ ht ?_)
  refine wpAny_bind (wpAny_typeOf hTs ?_)
  rw [if_pos (by decide)]
  refine wpAny_bind (zfp hs pl pu ?_)
  have hno : ¬ ((((sIx items.size 0 lo : Nat) : Int) == 0 && (1 : Int) == 1 && (sIx items.size items.size hi - sIx items.size 0 lo) == items.size) = true) := by
    intro q
    rw [Bool.and_eq_true, Bool.and_eq_true] at q
    have q1 : ((sIx items.size 0 lo : Nat) : Int) = 0 := eq_of_beq q.1.1
    have q2 : sIx items.size items.size hi - sIx items.size 0 lo = items.size := eq_of_beq q.2
    exact hw ⟨by omega, by omega⟩
  show wpAny _ _ (if (((sIx items.size 0 lo : Nat) : Int) == 0 && (1 : Int) == 1 && (sIx items.size items.size hi - sIx items.size 0 lo) == items.size) = true then _ else _) _ _ s
  rw [if_neg hno, zmU]
  first
    | exact wpAny_bind (m := Builtin.Tuple.tupleExact _) (wpAny_newObj_type (wpAny_pure ⟨_, rfl, wpAny_pure h⟩) htake)
    | exact wpAny_bind (m := Builtin.Tuple.tupleExact _) (wpAny_newObj_type (wpAny_bind (wpAny_pure (wpAny_pure ⟨_, rfl, wpAny_pure h⟩))) htake)
    | exact wpAny_bind (wpAny_bind (m := Builtin.Tuple.tupleExact _) (wpAny_newObj_type (wpAny_pure (wpAny_pure ⟨_, rfl, wpAny_pure h⟩)) htake))
    | exact wpAny_bind (wpAny_bind (m := Builtin.Tuple.tupleExact _) (wpAny_newObj_type (wpAny_pure ⟨_, rfl, wpAny_pure h⟩) htake))
end
end HT
namespace L2
open PySem PySem.Spec PyProof.Rows
abbrev TO := St -> Hp -> (Option Int -> Hp -> Prop) -> Prop
def PO (X : Cx) (e : Option Expr) (t : TO) : Prop :=
  ∀ (pins : List (Addr × Obj)) (s : Shared) (σ : St) (H : Hp) (Q : Option Int -> Hp -> Prop), Inv X pins σ H s -> t σ H Q ->
    wpAny (model X.prog X.w) X.A (evalPart e X.env) (fun u s' => ∃ o H', Inv X pins σ H' s' /\ IsPart u o /\ Q o H') X.xe s
def tNoPart : TO := fun _ H Q => Q none H
section
variable {X : Cx} {e : Expr} {te : TE} {lo hi : Option Expr} {tl th : TO} {pos p2 : Pos}
theorem zoq : PO X none tNoPart := by
  intro pins s σ H Q I h
  rw [evalPart_none]
  exact wpAny_pure ⟨none, H, I, .none, h⟩
def SlR (X : Cx) (r : V -> Option Int -> Option Int -> Hp -> VK -> Prop) : Prop :=
  ∀ (pins : List (Addr × Obj)) (s : Shared) (σ : St) (H : Hp) (x : V) (v vl vu : Value) (lo hi : Option Int) (sl : Addr) (Q : VK), Inv X pins σ H s -> RelV x v -> s.heap.IsSliceOf sl vl vu .none -> IsPart vl lo -> IsPart vu hi -> r x lo hi H Q ->
    ∃ T id, typeLookup (.type T) "__getitem__" = pure (some (.builtin id)) /\ s.TypeIs v T /\ wpAny (model X.prog X.w) X.A (getItem v (.ref sl)) (EP X pins σ Q) X.xe s
def tSl (r : V -> Option Int -> Option Int -> Hp -> VK -> Prop) (te : TE) (tl th : TO) : TE := fun σ H Q => te σ H fun x H1 => tl σ H1 fun l H2 => th σ H2 fun u H3 => r x l u H3 Q
theorem zm7 {r : V -> Option Int -> Option Int -> Hp -> VK -> Prop} (hr : SlR X r) (he : PE X e te) (hl : PO X lo tl) (hu : PO X hi th) : PE X (.Subscript e (.Slice lo hi none p2) pos) (tSl r te tl th) := by
  intro pins s σ H Q I h
  refine Subscript_ (thn (he pins s σ H _ I h) fun v s1 ⟨x, H1, I1, r1, q1⟩ => ?_)
  refine wpAny_Slice (thn (hl pins s1 σ H1 _ I1 q1) fun vl s2 ⟨l, H2, I2, pl, q2⟩ => thn (hu pins s2 σ H2 _ I2 q2) fun vu s3 ⟨u, H3, I3, pu, q3⟩ => ?_)
  rw [evalPart_none]
  refine wpAny_pure ?_
  have I4 : Inv X pins σ H3 { s3 with heap := s3.heap.push { cls := .type "slice", data := .fields #[vl, vu, .none] } } := I3.kept (t' := s3.toks) fun b ob q => Heap.get?_push_of_some _ q
  obtain ⟨T, id, hT, ht, hg⟩ := hr pins { s3 with heap := s3.heap.push { cls := .type "slice", data := .fields #[vl, vu, .none] } } σ H3 x v vl vu l u s3.heap.objs.size Q I4 r1 (Heap.IsSliceOf.new ..) pl pu q3
  show wpAny (model X.prog X.w) X.A (subscriptTail e (.Slice lo hi none p2) v (.ref s3.heap.objs.size)) (EP X pins σ Q) X.xe { s3 with heap := s3.heap.push { cls := .type "slice", data := .fields #[vl, vu, .none] } }
  exact tail_any (ops := [.ref s3.heap.objs.size, v]) ht hT hg (by with_unfolding_all rfl)
def cutV (xs : List V) (lo hi : Option Int) : List V := (xs.drop (HT.sIx xs.length 0 lo)).take (HT.sIx xs.length xs.length hi - HT.sIx xs.length 0 lo)
theorem zgx (xs : List V) (lo hi : Option Int) : (cutV xs lo hi).length <= xs.length := by
  unfold cutV
  rw [List.length_take, List.length_drop]
  omega
def rSlT (K : PySem.W.Frag) : V -> Option Int -> Option Int -> Hp -> VK -> Prop := fun x lo hi H Q => ∃ a xs, x = .ref a /\ SqT K H a xs /\
  ¬ (HT.sIx xs.length 0 lo = 0 /\ HT.sIx xs.length xs.length hi = xs.length) /\ ∀ p, H p = none -> Q (.ref p) (upd H p (.tup (cutV xs lo hi)))
theorem zpg : SlR X (rSlT X.K) := by
  intro pins s σ H x v vl vu lo hi sl Q I rx hs pl pu h
  obtain ⟨a, xs, rfl, hx, hw, q⟩ := h
  cases rx
  obtain ⟨its, r, ht, hz⟩ := I.tuple hx
  have hlen : its.toArray.size = xs.length := by rw [List.size_toArray]; exact r.length.symm
  refine ⟨"tuple", _, PyProof.Rows.slot_tuple_getitem.lookup, ht.typeIs, ?_⟩
  refine HT.getItem_tuple_cut ht hs pl pu (by rw [hlen]; exact hw) ?_ (by rw [hlen]; exact hz)
  rw [hlen]
  refine ⟨.ref s.heap.objs.size, _, I.laid (t' := s.toks) (o := .tup (cutV xs lo hi)) (fun b ob q => Heap.get?_push_of_some _ q) (Nat.le_refl _) ?_, rfl, q _ (I.hok.fresh (Nat.le_refl _))⟩
  exact ⟨Nat.le_trans (zgx xs lo hi) hz, _, (r.drop (HT.sIx xs.length 0 lo)).take (HT.sIx xs.length xs.length hi - HT.sIx xs.length 0 lo), IsTup.new _ _⟩
def rCatT (K : PySem.W.Frag) : R2 := fun x y H Q => ∃ a b xs ys, x = .ref a /\ y = .ref b /\ SqT K H a xs /\ SqT K H b ys /\ xs ≠ [] /\ xs.length + ys.length <= sizeLine /\
  (ys = [] -> Q (.ref a) H) /\ (ys ≠ [] -> ∀ p, H p = none -> Q (.ref p) (upd H p (.tup (xs ++ ys))))
theorem Vals.nil_iff {xs : List V} {us : List Value} (r : Vals xs us) : us = [] ↔ xs = [] := by
  cases r with
  | nil => simp
  | cons _ _ => simp
theorem zoP : OpR X (binaryOp .Add) (rCatT X.K) := by
  intro pins s σ H x y v u Q I rx ry h
  obtain ⟨a, b, xs, ys, rfl, rfl, ha, hb, hx, hz, q1, q2⟩ := h
  cases rx
  cases ry
  obtain ⟨its, r1, p1, _⟩ := I.tuple ha
  obtain ⟨its2, r2, p2, _⟩ := I.tuple hb
  refine HT.cat_tup p1 p2 (fun z => hx (r1.nil_iff.mp z)) (fun z => ⟨.ref a, H, I, rfl, q1 (r2.nil_iff.mp z)⟩) (fun z => ?_) (by rw [<- r1.length, <- r2.length]; exact hz)
  refine ⟨.ref s.heap.objs.size, _, I.laid (t' := s.toks) (o := .tup (xs ++ ys)) (fun b ob q => Heap.get?_push_of_some _ q) (Nat.le_refl _) ?_, rfl, q2 (fun w => z (r2.nil_iff.mpr w)) _ (I.hok.fresh (Nat.le_refl _))⟩
  exact ⟨by rw [List.length_append]; exact hz, _, r1.append r2, IsTup.new _ _⟩
end
end L2
namespace L2
open PySem PySem.Spec PyProof.Rows
def ixN (n : Nat) (i : Int) : Option Nat := if 0 <= i then (if i < n then some i.toNat else none) else if -(n : Int) <= i then some (i + n).toNat else none
def atI {α : Type} (xs : List α) (i : Int) : Option α := (ixN xs.length i).bind fun j => xs[j]?
theorem zl7 {n : Nat} {i : Int} {j : Nat} (h : ixN n i = some j) : seqIndex? i n = some j /\ j < n /\ -(n : Int) <= i /\ i < n := by
  unfold ixN at h
  by_cases h0 : 0 <= i
  · rw [if_pos h0] at h
    by_cases h1 : i < n
    · rw [if_pos h1] at h
      have e : i.toNat = j := Option.some.inj h
      exact ⟨by rw [seqIndex_of h0 h1, e], by omega, by omega, h1⟩
    · rw [if_neg h1] at h; cases h
  · rw [if_neg h0] at h
    by_cases h1 : -(n : Int) <= i
    · rw [if_pos h1] at h
      have e : (i + n).toNat = j := Option.some.inj h
      exact ⟨by rw [seqIndex_neg (by omega) h1, e], by omega, h1, by omega⟩
    · rw [if_neg h1] at h; cases h
theorem ziG {α : Type} {xs : List α} {i : Int} {v : α} (h : atI xs i = some v) : ∃ j, seqIndex? i xs.length = some j /\ xs[j]? = some v /\ j < xs.length /\ -(xs.length : Int) <= i /\ i < xs.length := by
  unfold atI at h
  cases e : ixN xs.length i with
  | none => rw [e] at h; cases h
  | some j =>
    rw [e] at h
    obtain ⟨h1, h2, h3, h4⟩ := zl7 e
    exact ⟨j, h1, h, h2, h3, h4⟩
def PlainIx (b : Expr) : Prop := ∀ o i, subscripted b false o i = operate [o, i] (getItem o i)
def IxR (X : Cx) (r : R2) : Prop :=
  ∀ (value slice : Expr) (pins : List (Addr × Obj)) (s : Shared) (σ : St) (H : Hp) (x y : V) (v u : Value) (Q : VK), Inv X pins σ H s -> RelV x v -> RelV y u -> r x y H Q ->
    subscripted slice false v u = operate [v, u] (getItem v u) -> wpAny (model X.prog X.w) X.A (subscriptTail value slice v u) (EP X pins σ Q) X.xe s
def MtR (X : Cx) (id : String) (r : V -> List V -> Hp -> VK -> Prop) : Prop :=
  ∀ (pins : List (Addr × Obj)) (s : Shared) (σ : St) (H : Hp) (x : V) (xs : List V) (v : Value) (us : List Value) (Q : VK), Inv X pins σ H s -> RelV x v -> Vals xs us -> r x xs H Q ->
    wpAny (model X.prog X.w) X.A (call (.builtin id) (v :: us)) (EP X pins σ Q) X.xe s
section
variable {X : Cx} {a b : Expr} {ta tb : TE} {pos : Pos}
theorem IxR.or {r r' : R2} (h : IxR X r) (h' : IxR X r') : IxR X (fun x y H Q => r x y H Q \/ r' x y H Q) := by
  intro value slice pins s σ H x y v u Q I rx ry q hs
  rcases q with q | q
  · exact h value slice pins s σ H x y v u Q I rx ry q hs
  · exact h' value slice pins s σ H x y v u Q I rx ry q hs
theorem zqm {r : R2} (hr : IxR X r) (ha : PE X a ta) (hb : PE X b tb) (hs : PlainIx b) : PE X (.Subscript a b pos) (tOp r ta tb) := by
  intro pins s σ H Q I h
  exact Subscript_ (binT ha hb I h fun v u s2 x y H2 I2 rx ry q => hr a b pins s2 σ H2 x y v u Q I2 rx ry q (hs _ _))
def rIxL (K : PySem.W.Frag) : R2 := fun x y H Q => ∃ p xs i v, x = .ref p /\ y = .int i /\ SqL K H p xs /\ atI xs i = some v /\ Q v H
def rIxT (K : PySem.W.Frag) : R2 := fun x y H Q => ∃ p xs i v, x = .ref p /\ y = .int i /\ SqT K H p xs /\ atI xs i = some v /\ Q v H
def rIxS : R2 := fun x y H Q => ∃ z i c, x = .str z /\ y = .int i /\ z.length <= sizeLine /\ atI z.cps.toList i = some c /\ Q (.str ⟨#[c]⟩) H
theorem ix_list : IxR X (rIxL X.K) := by
  intro value slice pins s σ H x y v u Q I rx ry h hs
  obtain ⟨p, xs, i, z, rfl, rfl, hq, he, q⟩ := h
  cases rx
  obtain ⟨t, rfl⟩ := ry
  obtain ⟨its, r, pl, hz⟩ := I.list hq
  obtain ⟨j, h1, h2, h3, h4, h5⟩ := ziG he
  obtain ⟨w, ew, rw'⟩ := r.get h2
  have hl := r.length
  have hn := line63
  have fin : EP X pins σ Q w s := ⟨z, H, I, rw', q⟩
  by_cases h0 : 0 <= i
  · have hj : i.toNat = j := by
      rw [seqIndex_of h0 h5] at h1
      exact Option.some.inj h1
    exact item_listR pl.isList h0 (by omega) (by rw [hj]; simpa using ew) fin hs
  · have hj : (i + (its.toArray.size : Int)).toNat = j := by
      rw [seqIndex_neg (by omega) h4] at h1
      rw [List.size_toArray, <- hl]
      exact Option.some.inj h1
    exact subscriptTail_builtinR (x := w) pl.isList.typeIs slot_list_getitem.lookup
      (wpAny_getItem_list_neg (Q := fun r s' => r = w /\ EP X pins σ Q r s') pl.isList (by omega) (by rw [List.size_toArray] <;> omega) (by omega) (by rw [hj]; simpa using ew) ⟨rfl, fin⟩) hs
theorem ix_tup : IxR X (rIxT X.K) := by
  intro value slice pins s σ H x y v u Q I rx ry h hs
  obtain ⟨p, xs, i, z, rfl, rfl, hq, he, q⟩ := h
  cases rx
  obtain ⟨t, rfl⟩ := ry
  obtain ⟨its, r, pl, hz⟩ := I.tuple hq
  obtain ⟨j, h1, h2, h3, h4, h5⟩ := ziG he
  obtain ⟨w, ew, rw'⟩ := r.get h2
  have hl := r.length
  have hn := line63
  have fin : EP X pins σ Q w s := ⟨z, H, I, rw', q⟩
  exact subscriptTail_builtinR (x := w) pl.typeIs slot_tuple_getitem.lookup
    (getItem_tuple (j := j) (Q := fun r s' => r = w /\ EP X pins σ Q r s') pl (by omega) (by omega) (by rw [List.size_toArray, <- hl]; exact h1) (by simpa using ew) ⟨rfl, fin⟩) hs
theorem zpJ : IxR X rIxS := by
  intro value slice pins s σ H x y v u Q I rx ry h hs
  obtain ⟨z, i, c, rfl, rfl, hz, he, q⟩ := h
  obtain ⟨t, rfl⟩ := rx
  obtain ⟨t', rfl⟩ := ry
  obtain ⟨j, h1, h2, h3, h4, h5⟩ := ziG he
  have hl : z.cps.toList.length = z.length := by simp [Str.length]
  rw [hl] at h1 h4 h5
  have hn := line63
  exact tail_any (typeIs_str s z t) slot_str_getitem.lookup (getItem_str (c := c) (by
    have e1 : decide (i < -(2 ^ 63 : Int)) = false := decide_eq_false (by omega)
    have e2 : decide (i ≥ 2 ^ 63) = false := decide_eq_false (by omega)
    rw [e1, e2, Bool.or_false]) (by rw [h1]; simpa using h2) ⟨.str ⟨#[c]⟩, H, I.tok _, ⟨_, rfl⟩, q⟩) hs
def rIx (K : PySem.W.Frag) : R2 := fun x y H Q => rIxL K x y H Q \/ rIxT K x y H Q \/ rIxS x y H Q
theorem zjr : IxR X (rIx X.K) := ix_list.or (ix_tup.or zpJ)
theorem zj9 (its : List Value) (n j : Nat) (u : Value) : Obj.mapSeq (·.setIfInBounds j u) { cls := .type "list", data := .seq its.toArray n } = { cls := .type "list", data := .seq (its.set j u).toArray n } := by
  simp [Obj.mapSeq]
theorem Inv.lst {pins : List (Addr × Obj)} {σ : St} {H : Hp} {s : Shared} {p : Addr} {xs : List V} (I : Inv X pins σ H s) (h : H p = some (.lst xs)) :
    ∃ (its : List Value) (n : Nat), Vals xs its /\ s.heap.get? p = some { cls := .type "list", data := .seq its.toArray n } /\ xs.length <= sizeLine := by
  obtain ⟨z, its, n, r, e⟩ := I.hok p _ h
  exact ⟨its, n, r, e, z⟩
theorem Inv.lstUpd {pins : List (Addr × Obj)} {σ : St} {H : Hp} {s : Shared} {p : Addr} {xs ys : List V} {its its' : List Value} {n n' : Nat} {f : Obj -> Obj} (I : Inv X pins σ H s) (h : H p = some (.lst xs))
    (ho : s.heap.get? p = some { cls := .type "list", data := .seq its.toArray n }) (hf : f { cls := .type "list", data := .seq its.toArray n } = { cls := .type "list", data := .seq its'.toArray n' }) (r : Vals ys its') (hz : ys.length <= sizeLine) (t : Nat) :
    Inv X pins σ (upd H p (.lst ys)) { s with heap := s.heap.update p f, toks := t } := by
  have e : (s.heap.update p f).get? p = some { cls := .type "list", data := .seq its'.toArray n' } := by
    rw [Heap.get?_update_self f ho (by rw [hf] <;> rfl), hf]
  refine I.write (x := p) (e := p) (by rw [h]; trivial) (.inl rfl) (fun b u hb q => (Heap.get?_update_other _ _ (Ne.symm hb)).trans q) ⟨_, e⟩ ?_
  exact ⟨hz, its', n', r, e⟩
def rSetL : V -> V -> V -> Hp -> (Hp -> Prop) -> Prop := fun o i v H Q => ∃ p xs k j, o = .ref p /\ i = .int k /\ H p = some (.lst xs) /\ ixN xs.length k = some j /\ Q (upd H p (.lst (xs.set j v)))
theorem zcP : PSet X rSetL := by
  intro pins s σ H o i v ov iv u Q I ro ri rv h
  obtain ⟨p, xs, k, j, rfl, rfl, hp, hj, q⟩ := h
  cases ro
  obtain ⟨t, rfl⟩ := ri
  obtain ⟨its, n, r, ho, hz⟩ := I.lst hp
  obtain ⟨h1, h2, h3, h4⟩ := zl7 hj
  have hl := r.length
  have hn := line63
  have I' : Inv X pins σ (upd H p (.lst (xs.set j v))) { s with heap := s.heap.update p (Obj.mapSeq (·.setIfInBounds j u)) } :=
    I.lstUpd hp ho (zj9 its n j u) (r.set rv j) (by rw [List.length_set]; exact hz) s.toks
  by_cases h0 : 0 <= k
  · have hk : k.toNat = j := by
      rw [seqIndex_of h0 h4] at h1
      exact Option.some.inj h1
    exact PySem.W.ki_setAt ho h0 (by omega) (by rw [List.size_toArray, <- hl]; exact h4) (by rw [hk]; exact ⟨_, I', q⟩)
  · have hk : (k + (its.toArray.size : Int)).toNat = j := by
      rw [seqIndex_neg (by omega) h3] at h1
      rw [List.size_toArray, <- hl]
      exact Option.some.inj h1
    exact PySem.W.ki_setBack ho (by omega) (by rw [List.size_toArray, <- hl]; exact h3) (by omega) (by rw [hk]; exact ⟨_, I', q⟩)
theorem zij (lo hi : Option Int) (n : Nat) : (sliceBounds lo hi none n).1 = ((HT.sIx n 0 lo : Nat) : Int) /\ (sliceBounds lo hi none n).2.1 = ((HT.sIx n n hi : Nat) : Int) /\ (sliceBounds lo hi none n).2.2 = 1 := by
  refine ⟨?_, ?_, rfl⟩
  · cases lo with
    | none => simp [sliceBounds, HT.sIx]
    | some i =>
      simp only [sliceBounds, HT.sIx, Option.getD_none, show (1 : Int) > 0 by decide, if_true]
      by_cases h : i < 0
      · simp only [h, if_true] <;> omega
      · simp only [h, if_false] <;> omega
  · cases hi with
    | none => simp [sliceBounds, HT.sIx]
    | some i =>
      simp only [sliceBounds, HT.sIx, Option.getD_none, show (1 : Int) > 0 by decide, if_true]
      by_cases h : i < 0
      · simp only [h, if_true] <;> omega
      · simp only [h, if_false] <;> omega
theorem zhc (its : List Value) (lo hi : Option Int) : slicePick its.toArray lo hi none = ((its.drop (HT.sIx its.length 0 lo)).take (HT.sIx its.length its.length hi - HT.sIx its.length 0 lo)).toArray := by
  obtain ⟨h1, h2, h3⟩ := zij lo hi its.toArray.size
  unfold slicePick
  rw [h1, h2, h3]
  simp only [sliceRange_one, pick_run, List.size_toArray] <;> rfl
def rSlL (K : PySem.W.Frag) : V -> Option Int -> Option Int -> Hp -> VK -> Prop := fun x lo hi H Q => ∃ a xs, x = .ref a /\ SqL K H a xs /\ ∀ p, H p = none -> Q (.ref p) (upd H p (.lst (cutV xs lo hi)))
theorem zlc : SlR X (rSlL X.K) := by
  intro pins s σ H x v vl vu lo hi sl Q I rx hs pl pu h
  obtain ⟨a, xs, rfl, hx, q⟩ := h
  cases rx
  obtain ⟨its, r, ht, hz⟩ := I.list hx
  have hlen := r.length
  refine ⟨"list", _, slot_list_getitem.lookup, ht.isList.typeIs, ?_⟩
  refine wpAny_getItem_list_slice ht.isList hs pl pu .none (by simp) ?_ (by rw [List.size_toArray] <;> omega)
  rw [zhc, <- hlen]
  refine ⟨.ref s.heap.objs.size, _, I.laid (t' := s.toks) (o := .lst (cutV xs lo hi)) (fun b ob q => Heap.get?_push_of_some _ q) (Nat.le_refl _) ?_, rfl, q _ (I.hok.fresh (Nat.le_refl _))⟩
  exact ⟨Nat.le_trans (zgx xs lo hi) hz, _, 0, (r.drop (HT.sIx xs.length 0 lo)).take (HT.sIx xs.length xs.length hi - HT.sIx xs.length 0 lo), Heap.get?_push_size _ rfl⟩
def flatV : V -> Bool
  | .non => true
  | .bl _ => true
  | .int _ => true
  | .str _ => true
  | _ => false
def eqV : V -> V -> Bool
  | .non, .non => true
  | .bl a, .bl b => a == b
  | .bl a, .int b => (if a then 1 else 0) == b
  | .int a, .bl b => a == (if b then 1 else 0)
  | .int a, .int b => a == b
  | .str a, .str b => a == b
  | _, _ => false
theorem zpa {A : Around} {s : Shared} {y x : V} {u v : Value} (ry : RelV y u) (rx : RelV x v) (fy : flatV y = true) (fx : flatV x = true) : SeqAt.EqAt A s u v (eqV y x) := by
  cases y with
  | non =>
    cases ry
    cases x with
    | non => cases rx; exact SeqAt.EqAt.same _
    | bl b => cases rx; exact SeqAt.EqAt.none_bool b
    | int b => obtain ⟨t, rfl⟩ := rx; exact SeqAt.EqAt.none_int b t
    | str b => obtain ⟨t, rfl⟩ := rx; exact SeqAt.EqAt.none_str b t
    | _ => exact absurd (show false = true from fx) Bool.false_ne_true
  | bl a =>
    cases ry
    cases x with
    | non => cases rx; exact SeqAt.EqAt.bool_none a
    | bl b => cases rx; exact SeqAt.EqAt.bool_bool a b
    | int b => obtain ⟨t, rfl⟩ := rx; exact SeqAt.EqAt.bool_int a b t
    | str b => obtain ⟨t, rfl⟩ := rx; exact SeqAt.EqAt.bool_str a b t
    | _ => exact absurd (show false = true from fx) Bool.false_ne_true
  | int a =>
    obtain ⟨t', rfl⟩ := ry
    cases x with
    | non => cases rx; exact SeqAt.EqAt.int_none a t'
    | bl b => cases rx; exact SeqAt.EqAt.int_bool a t' b
    | int b => obtain ⟨t, rfl⟩ := rx; exact SeqAt.EqAt.int_int a t' b t
    | str b => obtain ⟨t, rfl⟩ := rx; exact SeqAt.EqAt.int_str a t' b t
    | _ => exact absurd (show false = true from fx) Bool.false_ne_true
  | str a =>
    obtain ⟨t', rfl⟩ := ry
    cases x with
    | non => cases rx; exact SeqAt.EqAt.str_none a t'
    | bl b => cases rx; exact SeqAt.EqAt.str_bool a t' b
    | int b => obtain ⟨t, rfl⟩ := rx; exact SeqAt.EqAt.str_int a t' b t
    | str b => obtain ⟨t, rfl⟩ := rx; exact SeqAt.EqAt.str_str a t' b t
    | _ => exact absurd (show false = true from fx) Bool.false_ne_true
  | _ => exact absurd (show false = true from fy) Bool.false_ne_true
def eqU (x : V) (u : Value) : Bool := match u with
  | .none => eqV .non x
  | .bool b => eqV (.bl b) x
  | .int i _ => eqV (.int i) x
  | .str z _ => eqV (.str z) x
  | _ => false
theorem znK {x y : V} {u : Value} (r : RelV y u) (f : flatV y = true) : eqU x u = eqV y x := by
  cases y with
  | non => cases r; rfl
  | bl b => cases r; rfl
  | int i => obtain ⟨t, rfl⟩ := r; rfl
  | str z => obtain ⟨t, rfl⟩ := r; rfl
  | _ => exact absurd (show false = true from f) Bool.false_ne_true
theorem zgb {x : V} : ∀ {xs : List V} {us : List Value}, Vals xs us -> xs.all flatV = true -> us.any (eqU x) = xs.any fun y => eqV y x
  | _, _, .nil, _ => rfl
  | y :: xs, u :: us, .cons r t, f => by
    rw [List.all_cons, Bool.and_eq_true] at f
    rw [List.any_cons, List.any_cons, znK r f.1, zgb t f.2]
theorem zey {A : Around} {s : Shared} {x : V} {v : Value} (rx : RelV x v) (fx : flatV x = true) : ∀ {xs : List V} {us : List Value}, Vals xs us -> xs.all flatV = true -> ∀ u ∈ us, SeqAt.EqAt A s u v (eqU x u)
  | _, _, .nil, _ => fun u hu => by cases hu
  | y :: xs, u :: us, .cons r t, f => fun u' hu => by
    rw [List.all_cons, Bool.and_eq_true] at f
    rcases List.mem_cons.mp hu with rfl | hu
    · rw [znK r f.1]; exact zpa r rx f.1 fx
    · exact zey rx fx t f.2 u' hu
def inV (x : V) (xs : List V) : Bool := xs.any fun y => eqV y x
def rIn (K : PySem.W.Frag) (neg : Bool) : R2 := fun x y H Q => ∃ p xs, y = .ref p /\ (SqL K H p xs \/ SqT K H p xs) /\ flatV x = true /\ xs.all flatV = true /\ Q (.bl (if neg then !inV x xs else inV x xs)) H
theorem ziy : OpR X (compareOp .In) (rIn X.K false) := by
  intro pins s σ H x y v u Q I rx ry h
  obtain ⟨p, xs, rfl, hq, fx, fs, q⟩ := h
  cases ry
  rcases hq with hq | hq
  · obtain ⟨its, r, pl, hz⟩ := I.list hq
    refine SeqAt.in_listAt (eqU x) pl.isList (fun w hw => zey rx fx r fs w (by simpa using hw)) ⟨.bl _, H, I, rfl, ?_⟩
    rw [show its.toArray.any (eqU x) = its.any (eqU x) by simp, zgb r fs]
    exact q
  · obtain ⟨its, r, pl, hz⟩ := I.tuple hq
    refine SeqAt.in_tupleAt (eqU x) pl (fun w hw => zey rx fx r fs w (by simpa using hw)) ⟨.bl _, H, I, rfl, ?_⟩
    rw [show its.toArray.any (eqU x) = its.any (eqU x) by simp, zgb r fs]
    exact q
theorem zfb : OpR X (compareOp .NotIn) (rIn X.K true) := by
  intro pins s σ H x y v u Q I rx ry h
  obtain ⟨p, xs, rfl, hq, fx, fs, q⟩ := h
  cases ry
  rcases hq with hq | hq
  · obtain ⟨its, r, pl, hz⟩ := I.list hq
    refine SeqAt.notIn_listAt (eqU x) pl.isList (fun w hw => zey rx fx r fs w (by simpa using hw)) ⟨.bl _, H, I, rfl, ?_⟩
    rw [show its.toArray.any (eqU x) = its.any (eqU x) by simp, zgb r fs]
    exact q
  · obtain ⟨its, r, pl, hz⟩ := I.tuple hq
    refine SeqAt.notIn_tupleAt (eqU x) pl (fun w hw => zey rx fx r fs w (by simpa using hw)) ⟨.bl _, H, I, rfl, ?_⟩
    rw [show its.toArray.any (eqU x) = its.any (eqU x) by simp, zgb r fs]
    exact q
theorem ziC : CallR X (.builtin "len") (fun xs H Q => ∃ p ys, xs = [.ref p] /\ (SqL X.K H p ys \/ SqT X.K H p ys) /\ Q (.int ys.length) H) := by
  intro pins s σ H xs us Q I r h
  obtain ⟨p, ys, rfl, hq, q⟩ := h
  obtain ⟨u, rfl, rx⟩ := vals1 r
  cases rx
  have hn := line63
  rcases hq with hq | hq
  · obtain ⟨its, r', pl, hz⟩ := I.list hq
    have hlen := r'.length
    exact Calls.call_len_list pl.isList (by simp only [List.size_toArray] <;> omega) ⟨.int ys.length, H, I.tok _, ⟨s.toks + 1, by rw [List.size_toArray, hlen]⟩, q⟩
  · obtain ⟨its, r', pl, hz⟩ := I.tuple hq
    have hlen := r'.length
    exact len_tuple pl (by simp only [List.size_toArray] <;> omega) ⟨.int ys.length, H, I.tok _, ⟨s.toks + 1, by rw [List.size_toArray, hlen]⟩, q⟩
theorem zhR : CallR X (.builtin "len") (fun xs H Q => ∃ z, xs = [.str z] /\ z.length <= sizeLine /\ Q (.int z.length) H) := by
  intro pins s σ H xs us Q I r h
  obtain ⟨z, rfl, hz, q⟩ := h
  obtain ⟨u, rfl, t, rfl⟩ := vals1 r
  have hn := line63
  exact len_str (by omega) ⟨.int z.length, H, I.tok _, ⟨_, rfl⟩, q⟩
theorem zem : CallR X (.type "tuple") (fun xs H Q => ∃ p ys, xs = [.ref p] /\ ((SqL X.K H p ys /\ ∀ l, H l = none -> Q (.ref l) (upd H l (.tup ys))) \/ (SqT X.K H p ys /\ Q (.ref p) H))) := by
  intro pins s σ H xs us Q I r h
  obtain ⟨p, ys, rfl, h⟩ := h
  obtain ⟨u, rfl, rx⟩ := vals1 r
  cases rx
  rcases h with ⟨hq, q⟩ | ⟨hq, q⟩
  · obtain ⟨its, r', pl, hz⟩ := I.list hq
    have hlen := r'.length
    refine call_tuple_list pl.isList (fun h' kp => ?_) (by simp only [List.size_toArray] <;> omega)
    have I1 : Inv X pins σ H { s with heap := h' } := I.kept (t' := s.toks) kp
    have I2 : Inv X pins σ (upd H h'.objs.size (.tup ys)) { s with heap := h'.push { cls := .type "tuple", data := .seq its.toArray } } :=
      I1.laid (t' := s.toks) (fun b o e => Heap.get?_push_of_some _ e) (Nat.le_refl _) (show ObjOk X.prog X.w _ _ _ (.tup ys) from ⟨hz, its, r', IsTup.new _ _⟩)
    exact ⟨.ref h'.objs.size, _, I2, rfl, q _ (I1.hok.fresh (Nat.le_refl _))⟩
  · obtain ⟨its, r', pl, hz⟩ := I.tuple hq
    exact call_tuple_same pl ⟨.ref p, H, I, rfl, q⟩
def tyV (K : PySem.W.Frag) (T : String) (x : V) (H : Hp) : Prop := match x with
  | .str _ => T = "str"
  | .int _ => T = "int"
  | .ref p => (T = "list" /\ ∃ xs, SqL K H p xs) \/ (T = "tuple" /\ ∃ o, K.lookup p = some o /\ o.cls = .type "tuple" /\ o.dict = none) \/
      (T = "dict" /\ ((∃ kvs, H p = some (.dK kvs)) \/ ∃ kvs, H p = some (.dT kvs))) \/ (T = "set" /\ ∃ S n, H p = some (.set S n))
  | _ => False
theorem zph {pins : List (Addr × Obj)} {σ : St} {H : Hp} {s : Shared} {T : String} {x : V} {v : Value} (I : Inv X pins σ H s) (r : RelV x v) (ty : tyV X.K T x H) :
    s.TypeIs v T /\ ∀ a, v = .ref a -> ∃ ob, s.heap.get? a = some ob /\ ob.dict = none := by
  cases x with
  | str z =>
    obtain ⟨t, rfl⟩ := r
    cases (show T = "str" from ty)
    exact ⟨typeIs_str s z t, fun _ e => nomatch e⟩
  | int i =>
    obtain ⟨t, rfl⟩ := r
    cases (show T = "int" from ty)
    exact ⟨typeIs_int s i t, fun _ e => nomatch e⟩
  | ref p =>
    cases r
    rcases ty with ⟨rfl, xs, hq⟩ | ⟨rfl, o, hk, hc, hd⟩ | ⟨rfl, hk⟩ | ⟨rfl, S, n, hk⟩
    · obtain ⟨its, _, pl, _⟩ := I.list hq
      refine ⟨pl.isList.typeIs, fun a e => ?_⟩
      cases e
      obtain ⟨o, n, e, c, hd, _⟩ := pl
      exact ⟨o, e, hd⟩
    · refine ⟨⟨o, I.kIn p o hk, hc⟩, fun a e => ?_⟩
      cases e
      exact ⟨o, I.kIn _ o hk, hd⟩
    · have z : ∃ o, s.heap.get? p = some o /\ o.ExactDict := by
        rcases hk with ⟨kvs, hk⟩ | ⟨kvs, hk⟩
        · obtain ⟨_, _, _, _, o, _, _, e, ex, _⟩ := I.hok p _ hk
          exact ⟨o, e, ex⟩
        · obtain ⟨_, _, _, _, o, _, _, e, ex, _⟩ := I.hok p _ hk
          exact ⟨o, e, ex⟩
      obtain ⟨o, e, ex⟩ := z
      refine ⟨⟨o, e, ex.1⟩, fun a e2 => ?_⟩
      cases e2
      exact ⟨o, e, ex.2.1⟩
    · obtain ⟨o, _, _, _, e, ex, _⟩ := I.hok p _ hk
      refine ⟨⟨o, e, ex.1⟩, fun a e2 => ?_⟩
      cases e2
      exact ⟨o, e, ex.2.1⟩
  | _ => exact False.elim ty
def tBM (K : PySem.W.Frag) (T : String) (r : V -> List V -> Hp -> VK -> Prop) (to : TE) (t : TA) : TE := fun σ H Q => to σ H fun x H1 => tyV K T x H1 /\ t σ H1 fun xs H2 => r x xs H2 Q
variable {o e : Expr} {es : List Expr} {to : TE} {t : TA} {name : Str} {apos cpos : Pos} {T id : String} {r : V -> List V -> Hp -> VK -> Prop}
theorem zqr (pa : PlainAttrs T) (slot : Slot T name id) (hty : typeOf (.builtin id) = pure (.type "method_descriptor")) (hm : MtR X id r) (ho : PE X o to) (ha : PA X (e :: es) t)
    (hbase : attributeBase o name X.env (eval o X.env) = eval o X.env := by rfl)
    (hfew : ((backTo cpos (starEach (e :: es) X.env)).all (fun x => !x.1) && (backToKw cpos (keywordEach [] X.env)).all (fun x => x.1.isSome)
      && decide ((e :: es).length + ([] : List Keyword).length + (if ([] : List Keyword).isEmpty then 0 else 1) < 30)) = true := by rfl)
    (hline : (apos.endLine == cpos.line) = true := by rfl) (hs : starEach (e :: es) X.env = (false, eval e X.env) :: starEach es X.env := by rfl) (hplain : (backTo cpos (starEach es X.env)).any (·.1) = false := by rfl) :
    PE X (.Call (.Attribute o name apos) (e :: es) [] cpos) (tBM X.K T r to t) := by
  intro pins s σ H Q I h
  refine wpAny_Call_method_late hbase hfew hline rfl (thn (ho pins s σ H _ I h) fun v s1 ⟨x, H1, I1, r1, ty, q1⟩ => ?_)
  obtain ⟨h1, h2⟩ := zph I1 r1 ty
  refine ⟨T, id, pa, slot, hty, h1, h2, ?_⟩
  have hA := ha cpos pins s1 σ H1 _ I1 q1
  rw [hs] at hA ⊢
  refine Calls.callWith_builtin (by show (false || (backTo cpos (starEach es X.env)).any (·.1)) = false; rw [hplain] <;> rfl) (Calls.evalArgs_plain ?_)
  exact thn hA fun us s2 ⟨vs, H2, I2, r2, q2⟩ => hm pins s2 σ H2 x vs v us Q I2 r1 r2 q2
/- xs.append(e), list.index on a module's tuple .. are MtR facts of 06m -/
end
end L2
namespace L2
open PySem PySem.Spec PyProof.Rows
def MtM (X : Cx) (id : String) (r : V -> List V -> Hp -> VK -> Prop) : Prop :=
  ∀ (pins : List (Addr × Obj)) (s : Shared) (σ : St) (H : Hp) (x : V) (xs : List V) (v : Value) (us : List Value) (Q : VK), Inv X pins σ H s -> RelV x v -> Vals xs us -> r x xs H Q ->
    wpAny (model X.prog X.w) X.A (call (.builtin id) (v :: us)) (EP X pins σ Q) X.xe s
theorem Vals.one : ∀ {x : V} {us : List Value}, Vals [x] us -> ∃ u, us = [u] /\ RelV x u
  | _, _, .cons r .nil => ⟨_, rfl, r⟩
section
variable {X : Cx} {pins : List (Addr × Obj)} {σ : St} {H : Hp} {s : Shared} {l b : Addr} {xs ys zs : List V}
theorem Inv.lset {its its' : List Value} {n : Nat} {f : Array Value -> Array Value} {t' : Nat} (I : Inv X pins σ H s) (hH : H l = some (.lst xs))
    (e : s.heap.get? l = some { cls := .type "list", data := .seq its.toArray n }) (hf : f its.toArray = its'.toArray) (hv : Vals ys its') (hz : ys.length <= sizeLine) :
    Inv X pins σ (upd H l (.lst ys)) { s with heap := s.heap.update l (Obj.mapSeq f), toks := t' } := by
  have q := PySem.IsL.update e f
  rw [hf] at q
  refine I.write (x := l) (e := l) (by rw [hH]; exact trivial) (.inl rfl) (fun b' u hb hu => (Heap.get?_update_other s.heap (Obj.mapSeq f) (Ne.symm hb)).trans hu) ⟨_, q⟩ ?_
  exact ⟨hz, its', _, hv, q⟩
theorem Inv.lnew {its : List Value} {t' : Nat} (I : Inv X pins σ H s) (hv : Vals ys its) (hz : ys.length <= sizeLine) :
    Inv X pins σ (upd H s.heap.objs.size (.lst ys)) { s with heap := s.heap.push { cls := .type "list", data := .seq its.toArray }, toks := t' } :=
  I.laid (fun _ _ q => Heap.get?_push_of_some _ q) (Nat.le_refl _) ⟨hz, its, 0, hv, Heap.get?_push_size _ rfl⟩
theorem Inv.fresh (I : Inv X pins σ H s) : H s.heap.objs.size = none := I.hok.fresh (Nat.le_refl _)
theorem Inv.lstM (I : Inv X pins σ H s) (hH : H l = some (.lst xs)) : xs.length <= sizeLine /\ ∃ (its : List Value) (n : Nat), Vals xs its /\ xs.length = its.length /\ s.heap.get? l = some { cls := .type "list", data := .seq its.toArray n } := by
  obtain ⟨z, its, n, r, e⟩ := I.hok l _ hH
  exact ⟨z, its, n, r, r.length, e⟩
theorem notLongL {n : Nat} (h : n <= sizeLine) : Builtin.List.listTooLong n = false := by
  unfold Builtin.List.listTooLong
  exact decide_eq_false (by omega)
end
section
variable {X : Cx}
def rAppend : V -> List V -> Hp -> VK -> Prop := fun x vs H Q => ∃ l xs y, x = .ref l /\ vs = [y] /\ H l = some (.lst xs) /\ xs.length < sizeLine /\ Q .non (upd H l (.lst (xs ++ [y])))
theorem zhM : MtM X "list.append" rAppend := by
  intro pins s σ H x vs v us Q I rx rv h
  obtain ⟨l, xs, y, rfl, rfl, hH, hz, q⟩ := h
  cases rx
  obtain ⟨u, rfl, ru⟩ := rv.one
  obtain ⟨z, its, n, r, hl, e⟩ := I.lstM hH
  refine call_meets F.slot_list_append ⟨_, e, rfl⟩ F.entry_list_append (F.args_list_append_2 _ _) (PySem.list_append l its.toArray n u (by rw [List.size_toArray]; omega)) ⟨e, ?_⟩
  refine ⟨.non, _, I.lset (its' := its ++ [u]) hH e (by simp) (r.append (.cons ru .nil)) ?_, rfl, q⟩
  rw [List.length_append, List.length_singleton]
  omega
def rExtend : V -> List V -> Hp -> VK -> Prop := fun x vs H Q => ∃ l b xs zs, x = .ref l /\ vs = [.ref b] /\ H l = some (.lst xs) /\ H b = some (.lst zs) /\ xs.length + zs.length <= sizeLine /\ Q .non (upd H l (.lst (xs ++ zs)))
theorem zpA : MtM X "list.extend" rExtend := by
  intro pins s σ H x vs v us Q I rx rv h
  obtain ⟨l, b, xs, zs, rfl, rfl, hH, hB, hz, q⟩ := h
  cases rx
  obtain ⟨u, rfl, ru⟩ := rv.one
  cases ru
  obtain ⟨z, its, n, r, hl, e⟩ := I.lstM hH
  obtain ⟨z2, its2, n2, r2, hl2, e2⟩ := I.lstM hB
  have hsz : its.toArray.size + its2.toArray.size <= sizeLine := by rw [List.size_toArray, List.size_toArray]; omega
  have hlong : ¬ (!its.toArray.isEmpty && Builtin.List.listTooLong (its.toArray.size + its2.toArray.size)) = true := by
    rw [notLongL hsz, Bool.and_false]
    exact Bool.false_ne_true
  refine call_meets F.slot_list_extend ⟨_, e, rfl⟩ F.entry_list_extend (F.args_list_extend_2 _ _)
    (AutoSeq1.list_extend_list_list_0 l its.toArray n b its2.toArray n2 hlong (by rw [List.size_toArray]; omega) (by omega)) ⟨e, e2, ?_⟩
  refine ⟨.non, _, I.lset (its' := its ++ its2) hH e (by simp) (r.append r2) ?_, rfl, q⟩
  rw [List.length_append]
  omega
def rCat : R2 := fun x y H Q => ∃ l b xs zs, x = .ref l /\ y = .ref b /\ H l = some (.lst xs) /\ H b = some (.lst zs) /\ xs.length + zs.length <= sizeLine /\ ∀ p, H p = none -> Q (.ref p) (upd H p (.lst (xs ++ zs)))
theorem zps : OpR X (binaryOp .Add) rCat := by
  intro pins s σ H x y v u Q I rx ry h
  obtain ⟨l, b, xs, zs, rfl, rfl, hH, hB, hz, q⟩ := h
  cases rx
  cases ry
  obtain ⟨z, its, n, r, hl, e⟩ := I.lstM hH
  obtain ⟨z2, its2, n2, r2, hl2, e2⟩ := I.lstM hB
  refine PySem.P.add_list e e2 ?_ (by rw [List.size_toArray, List.size_toArray]; omega)
  have ea : its.toArray ++ its2.toArray = (its ++ its2).toArray := by simp
  rw [ea]
  exact ⟨.ref _, _, I.lnew (t' := s.toks) (r.append r2) (by rw [List.length_append]; omega), rfl, q _ I.fresh⟩
end
section
variable {prog : Program} {w : World} {A : Around} {E : Value -> Shared -> Prop} {s : Shared}
end
section
variable {X : Cx}
end
end L2
namespace Att
open PySem PySem.W PySem.Calls PyProof.Rows
theorem zfS {P : Params} {h : Heap} : ∀ (ns : List Int) (vs : List Value), WellAll P h vs (ns.map WData.int) -> IntsAre vs ns := by
  intro ns
  induction ns with
  | nil =>
    intro vs w
    rw [List.map_nil] at w
    cases w
    exact .nil
  | cons n ns ih =>
    intro vs w
    rw [List.map_cons] at w
    cases w with
    | cons a b =>
      cases a
      exact .cons _ _ (ih _ b)
theorem zlT {l : OpenLaw} {n : Nat} (hn : l.most = some n) {P : Params} {h : Heap} {args : List WData} {vals : List Value}
    (hpre : l.row.toRowW.claim.pre args = true) (hwl : WellAll P h vals args) :
    ∃ a vs ns, vals = [Value.ref a] /\ args = [WData.list (ns.map WData.int)] /\ h.get? a = some { cls := .type "list", data := .seq vs.toArray } /\ IntsAre vs ns /\ ns.length <= n := by
  have hsh : WShape.hasAll [] args [.list .int] = true := (pre_splitW hpre).1
  have hc : l.pre.holds [] { args := args } = true := (pre_splitW hpre).2
  obtain ⟨d, r, rfl, h1, h2⟩ := hasAllW_cons hsh
  obtain rfl := hasAllW_nil h2
  obtain ⟨xs, rfl, h3⟩ := hasW_list h1
  obtain ⟨ns, rfl⟩ := items_int h3
  have hlen : ns.length <= n := by
    unfold OpenLaw.pre at hc
    have h4 : (WTm.not (.lt (.lit (.int (n : Int))) (.len (.arg 0)))).holds [] { args := [.list (ns.map .int)] } = true := by
      have h4 := (holds_andW hc).1
      rw [hn] at h4
      exact h4
    have h5 := condW_of h4 (w_not (w_lt w_lit (w_len_list (w_arg rfl))))
    rw [List.length_map] at h5
    refine Nat.le_of_not_lt fun q => ?_
    have q' : (n : Int) < ((ns.length : Nat) : Int) := by omega
    first
      | (rw [decide_eq_true q'] at h5; exact absurd h5 (by decide))
      | (simp at h5; omega)
  cases hwl with
  | cons w1 w2 =>
    cases w2
    cases w1 with
    | list ho hall => exact ⟨_, _, ns, rfl, rfl, ho, zfS ns _ hall, hlen⟩
theorem zlD (l : OpenLaw) (args : List WData) : l.row.toRowW.claim.post args (.bool true) args = true :=
  postW_of (r := l.row.toRowW) (X := (true == true))
    (show WShape.has [] (.bool true) .bool = true by first | rfl | decide | simp [WShape.has, WShape.arms, WShape.armsAll])
    (show (WTm.eq .res (.lit (.bool true))).value [] { args := args, res := some (.bool true), after := args } = some (.bool (true == true)) from w_eq_bool (w_res rfl) w_lit) rfl
theorem attach_call {l : OpenLaw} {n : Nat} {q : Program} {loose : List Str} {XP : (Str -> Option Value) -> Heap -> Prop} {YP : World -> Heap -> Prop} {d : DefRec}
    (hn : l.most = some n) (hdf : d.params.defaults = [])
    (call : ∀ (w : World) (s₀ s₁ : Shared) (mg mb : Str -> Option Value) (fa : Addr) (o : Obj) (pm cd doc : Value) (a : Addr) (vs : List Value) (ns : List Int),
      Ground q loose [] XP w s₀ mg mb s₁.heap -> YP w s₁.heap ->
      s₁.heap.get? fa = some o -> o.data = .func (docDef d.name d.params d.body d.scope pm cd doc) -> s₁.heap.CodeRec cd d.name -> mg d.name = some (.ref fa) ->
      s₁.heap.get? a = some { cls := .type "list", data := .seq vs.toArray } -> IntsAre vs ns -> ns.length <= n -> s₁.gens = #[] ->
      codeAny (model l.prog w) callerA (.call (.ref fa) ⟨[.ref a], []⟩) (fun r s' => r = .ok (.ret (.bool true)) /\ OldK s₁.heap s'.heap /\ s'.os = s₁.os /\ AllBare s'.gens) s₁) :
    WalkO q loose XP YP l.row.toRowW d [] (fun f vs => PySem.call f vs) := by
  intro w s₀ s₁ mg mb G Y fa o pm cd doc dV kV ho hd hcd hD hmg hg args vals as hpre hlay hrd hwl hlo
  obtain rfl : dV = .none := Dflts.none hD hdf
  obtain rfl : kV = .none := Dflts.noKw hD
  obtain ⟨a, vs, ns, rfl, rfl, hobj, hints, hlen⟩ := zlT hn hpre hwl
  refine enter_call (codeAny_mono (call w s₀ s₁ mg mb fa o pm cd doc a vs ns G Y ho (fd_plain hd) hcd hmg hobj hints hlen hg) fun r s' hq => ?_)
  obtain ⟨rfl, h2, h3, h4⟩ := hq
  exact ⟨.inl ⟨.bool true, .bool true, [], rfl, fun _ => rfl, .bool true, zlD l _, fun _ => ⟨List.Pairwise.nil, fun _ hm => (nomatch hm)⟩⟩, h2, h3, h4⟩
section
variable {prog : Program} {w : World} {A : Around} {E : Value -> Shared -> Prop} {s : Shared} {K : Frag}
end
end Att
namespace L2
open PySem PySem.Spec PyProof.Rows
theorem zhG : ∀ {vs : List Value} {ns : List Int}, IntsAre vs ns -> Vals (ns.map V.int) vs
  | _, _, .nil => .nil
  | _, _, .cons n t h => .cons ⟨t, rfl⟩ (zhG h)
def Only (H : Hp) : Prop := ∀ b, H b = none \/ ∃ o xs, H b = some (.frz o (.lst xs))
theorem znk {P : Program} {w : World} {K : PySem.W.Frag} {mg mb : Str -> Option Value} {CX : CXT} {k : Nat} {fa a : Addr} {fd : FuncData} {x : Str} {sp : Sp} {s₁ : Shared} {vs : List Value} {ns : List Int}
    (KX : K.In s₁.heap) (hns : s₁.heap.Ns mainGlobals mg) (hb : s₁.heap.Ns builtinsNs mb) (hbb : ∀ x : Str, x ≠ "__name__" -> mb x = bootBuiltins x) (hlim : s₁.heap.NoLimit) (hg : s₁.gens = #[])
    (ha : s₁.heap.get? a = some { cls := .type "list", data := .seq vs.toArray }) (hi : IntsAre vs ns) (hl : ns.length <= sizeLine) (hr : Room k callerA)
    (F : ∀ base : Heap, K.In base -> base.Ns mainGlobals mg -> FnOk P w K mg base CX k fa fd [x] sp) (hbind : ∀ (s : Shared) (u : Value), BindsTo s fd ⟨[u], []⟩ [(x, u)])
    (hsp : ∀ H : Hp, Only H -> SqL K H a (ns.map V.int) -> sp [.ref a] H (fun v _ => v = .bl true) fun _ _ _ => False)
    (hCX : ∀ H e s', CX [] H s₁ (fun _ _ _ => False) e s' -> False) :
    codeAny (model P w) callerA (.call (.ref fa) ⟨[.ref a], []⟩) (fun r s' => r = .ok (.ret (.bool true)) /\ OldK s₁.heap s'.heap /\ s'.os = s₁.os /\ AllBare s'.gens) s₁ := by
  have rv := zhG hi
  have lenV := hi.length
  -- from an abstract heap in which nothing but the script may be tracked
  have core : ∀ H : Hp, Only H -> SqL K H a (ns.map V.int) -> HOk P w H s₁.heap -> (∀ b, H b ≠ none -> b = a) -> (H a ≠ none -> K.lookup a = none) ->
      codeAny (model P w) callerA (.call (.ref fa) ⟨[.ref a], []⟩) (fun r s' => r = .ok (.ret (.bool true)) /\ OldK s₁.heap s'.heap /\ s'.os = s₁.os /\ AllBare s'.gens) s₁ := by
    intro H hO hS hok hA hK
    have base_of : ∀ {b : Addr} {o : Obj}, s₁.heap.get? b = some o -> H b = none -> (hidT s₁.heap H).get? b = some o := fun e n => zmX e n
    have noA : ∀ {b : Addr} {o : Obj} {es : Array DictEntry} {ep : Nat}, s₁.heap.get? b = some o -> o.data = .dict es ep -> H b = none := fun {b o es ep} e d => by
      cases q : H b with
      | none => rfl
      | some u =>
        have e' : b = a := hA b (by rw [q]; simp)
        subst e'
        rw [ha] at e; cases e
        have d' : Data.seq vs.toArray _ = Data.dict es ep := d
        cases d'
    have nsK : ∀ {b : Addr} {m : Str -> Option Value}, s₁.heap.Ns b m -> (hidT s₁.heap H).Ns b m := fun {b m} ⟨o, es, ep, e, d, r⟩ => ⟨o, es, ep, base_of e (noA e d), d, r⟩
    have hKb : K.In (hidT s₁.heap H) := fun b o e => base_of (KX b o e) (by
      cases q : H b with
      | none => rfl
      | some u =>
        have e' : b = a := hA b (by rw [q]; simp)
        subst e'
        rw [hK (by rw [q]; simp)] at e; cases e)
    have hM : Mod K mg (hidT s₁.heap H) := ⟨hKb, nsK hns, ⟨mb, nsK hb, hbb⟩, let ⟨mc, h1, h2⟩ := hlim; ⟨mc, nsK h1, h2⟩⟩
    have e0 : Env0 P w K mg (hidT s₁.heap H) callerA [] s₁ H := ⟨rfl, hM, fun b o e => zoL e, Nat.le_of_eq (zlu _ _), trivial, fun b hb => absurd (show b ∈ ([] : List Addr) from hb) (by simp), hok, .of_eq hg⟩
    refine codeAny_mono ((F _ hKb (nsK hns)).run callerA [] s₁ H ⟨[.ref a], []⟩ [.ref a] [.ref a] _ _ hr e0 (hbind s₁ (.ref a)) (.cons rfl .nil) (hsp H hO hS)) fun r s' h => ?_
    cases r with
    | error e => exact (hCX H e s' h).elim
    | ok fl =>
      cases fl with
      | next => exact False.elim h
      | brk => exact False.elim h
      | cont => exact False.elim h
      | ret u =>
        obtain ⟨v, H', os, bare, un, hok', r', q⟩ := h
        have q' : v = .bl true := q
        subst q'
        obtain rfl : u = Value.bool true := r'
        refine ⟨rfl, OldK.of_keep fun b o e => ?_, os, bare⟩
        cases q : H b with
        | none => exact un.keep b o e q (by intro z; exact absurd (show b ∈ ([] : List Addr) from z) (by simp)) (by simp)
        | some u =>
          rcases hO b with z | ⟨ob, xs, z⟩
          · rw [q] at z; cases z
          · have z2 := un.frzs b ob _ z
            obtain ⟨e1, _⟩ := hok b _ z
            obtain ⟨e2, _⟩ := hok' b _ z2
            rw [e] at e1; cases e1
            exact e2
  cases hk : K.lookup a with
  | some o =>
    -- the script is one of the module's own objects
    have e := KX a o hk
    rw [ha] at e
    cases e
    refine core (fun _ => none) (fun _ => .inl rfl) (.inr ⟨_, vs.toArray, _, hk, rfl, rfl, rfl, by rw [List.size_toArray, lenV]; exact hl, by simpa using rv⟩) (fun b u z => by have z' : (none : Option HO) = some u := z; cases z') (fun b z => absurd rfl z) fun z => absurd rfl z
  | none =>
    refine core (fun b => if b = a then some (.frz { cls := .type "list", data := .seq vs.toArray } (.lst (ns.map V.int))) else none) (fun b => ?_) (.inl (.inr ⟨{ cls := .type "list", data := .seq vs.toArray }, if_pos rfl⟩)) (fun b u z => ?_) (fun b z => ?_) fun _ => hk
    · by_cases hb : b = a
      · exact .inr ⟨_, _, if_pos hb⟩
      · exact .inl (if_neg hb)
    · by_cases hb : b = a
      · have z' := (if_pos hb).symm.trans z
        cases z'
        subst hb
        exact ⟨ha, by rw [List.length_map]; exact hl, vs, _, rv, ha⟩
      · have z' := (if_neg hb).symm.trans z
        cases z'
    · by_cases hb : b = a
      · exact hb
      · exact absurd (if_neg hb) z
end L2
namespace L2
open PySem PySem.Spec PyProof.Rows
theorem walk_of {l : PySem.W.OpenLaw} {n k : Nat} {q : Program} {loose : List Str} {XP : (Str -> Option Value) -> Heap -> Prop} {YP : World -> Heap -> Prop} {d : DefRec} {K : Params -> PySem.W.Frag} {CX : World -> CXT} {sp : World -> Sp} {x : Str}
    (hn : l.most = some n) (hn2 : n <= sizeLine) (hdf : d.params.defaults = []) (hr : Room k callerA)
    (hY : ∀ (w : World) (h : Heap), YP w h -> (K w.params).In h)
    (F : ∀ (w : World) (mg : Str -> Option Value) (fa : Addr) (h : Heap), (K w.params).In h -> h.Ns mainGlobals mg -> mg d.name = some (.ref fa) ->
      ∃ fd : FuncData, (∀ (s : Shared) (u : Value), BindsTo s fd ⟨[u], []⟩ [(x, u)]) /\
        ∀ base : Heap, (K w.params).In base -> base.Ns mainGlobals mg -> FnOk l.prog w (K w.params) mg base (CX w) k fa fd [x] (sp w))
    (hsp : ∀ (w : World) (H : Hp) (a : Addr) (ns : List Int), ns.length <= n -> Only H -> SqL (K w.params) H a (ns.map V.int) -> sp w [.ref a] H (fun v _ => v = .bl true) fun _ _ _ => False)
    (hCX : ∀ (w : World) (H : Hp) (s : Shared) (e : Value) (s' : Shared), CX w [] H s (fun _ _ _ => False) e s' -> False) :
    PySem.W.WalkO q loose XP YP l.row.toRowW d [] (fun f vs => PySem.call f vs) := by
  refine Att.attach_call hn hdf fun w s₀ s₁ mg mb fa o pm cd doc a vs ns G Y ho hd hcd hmg hobj hints hlen hg => ?_
  have KX := hY w _ Y
  obtain ⟨fd, hb, hF⟩ := F w mg fa _ KX G.T.g hmg
  exact znk KX G.T.g G.T.b G.T.builtins G.T.nolimit hg hobj hints (Nat.le_trans hlen hn2) hr hF hb (fun H hO hS => hsp w H a ns hlen hO hS) fun H e s' => hCX w H s₁ e s'
end L2
namespace L2
open PySem PySem.Spec PyProof.Rows
def defArgs (s : Stmt) : Arguments := match s with
  | .FunctionDef _ a _ _ _ _ _ _ _ _ => a
  | _ => { posonlyargs := [], args := [], vararg := none, kwonlyargs := [], kw_defaults := [], kwarg := none, defaults := [] }
def defBody (s : Stmt) : List Stmt := match s with
  | .FunctionDef _ _ b _ _ _ _ _ _ _ => b
  | _ => []
def defScope (s : Stmt) : Scope := match s with
  | .FunctionDef _ _ _ _ _ _ sc _ _ _ => sc
  | _ => { kind := .function, names := [], isGenerator := false, isCoroutine := false }
structure Fun (K : PySem.W.Frag) (x qual : Str) (st : Stmt) (f : Addr) (fd : FuncData) : Prop where
  ex : ∃ (oc : Value) (od : Option Addr) (kV doc pm : Value) (an : Option Addr) (cdv ct : Value) (osl : Array (Option Value)),
    fd = PySem.W.fnOf x qual (defArgs st) (defBody st) (defScope st) .none kV doc pm an cdv ct /\ K.lookup f = some ⟨oc, od, .func fd, osl⟩ /\ PySem.W.codeIn K cdv qual = true
  kp : PySem.W.keepIn K (.ref f) = true
section
variable {P : Program} {w : World} {K : PySem.W.Frag} {mg : Str -> Option Value} {base : Heap}
theorem Fun.binds {x qual : Str} {st : Stmt} {f : Addr} {fd : FuncData} {ps : List Str} (F : Fun K x qual st f fd)
    (h : ∀ (kV doc pm : Value) (an : Option Addr) (cdv ct : Value) (us : List Value), us.length = ps.length -> bindArgs (PySem.W.fnOf x qual (defArgs st) (defBody st) (defScope st) .none kV doc pm an cdv ct) ⟨us, []⟩ = pure (ps.zip us)) : Binds K fd ps [] := by
  obtain ⟨oc, od, kV, doc, pm, an, cdv, ct, osl, rfl, lk, hcd⟩ := F.ex
  exact .all (h kV doc pm an cdv ct)
theorem znN {x qual : Str} {st : Stmt} {f : Addr} {oc : Value} {od an : Option Addr} {osl : Array (Option Value)} {kV doc pm cdv ct : Value} (l : K.lookup f = some ⟨oc, od, .func (PySem.W.fnOf x qual (defArgs st) (defBody st) (defScope st) .none kV doc pm an cdv ct), osl⟩)
    (c : PySem.W.codeIn K cdv qual = true) (k : PySem.W.keepIn K (.ref f) = true) : Fun K x qual st f (PySem.W.fnOf x qual (defArgs st) (defBody st) (defScope st) .none kV doc pm an cdv ct) := ⟨⟨oc, od, kV, doc, pm, an, cdv, ct, osl, rfl, l, c⟩, k⟩
end
theorem zaf {A : Around} {k : Nat} (hr : Room k A) : A.units + 1 < cLine := Nat.lt_of_le_of_lt (Nat.add_le_add_left (by decide : 1 <= 64) _) hr.units
section
variable {X : Cx}
end
end L2
namespace L2
open PySem PySem.Spec PyProof.Rows
section
variable {κ : Type} [DecidableEq κ]
def valV (kvs : List (κ × V)) (k : κ) : Option V := (kvs.find? fun kv => decide (kv.1 = k)).map (·.2)
def putK (kvs : List (κ × V)) (k : κ) (v : V) : List (κ × V) :=
  if (kvs.any fun kv => decide (kv.1 = k)) = true then kvs.map (fun kv => if kv.1 = k then (kv.1, v) else kv) else kvs ++ [(k, v)]
theorem zeC {p : κ × V} {r : List (κ × V)} {k : κ} (e : p.1 = k) : valV (p :: r) k = some p.2 := by simp [valV, List.find?_cons, e]
theorem zev {p : κ × V} {r : List (κ × V)} {k : κ} (e : ¬ p.1 = k) : valV (p :: r) k = valV r k := by simp [valV, List.find?_cons, e]
theorem zjR (k : κ) : ∀ kvs : List (κ × V), (kvs.any fun kv => decide (kv.1 = k)) = (valV kvs k).isSome
  | [] => rfl
  | p :: r => by
    rw [List.any_cons]
    by_cases e : p.1 = k
    · simp only [zeC e, decide_eq_true e, Bool.true_or, Option.isSome_some]
    · rw [zev e, decide_eq_false e, Bool.false_or]; exact zjR k r
theorem zd7 (kvs : List (κ × V)) (k : κ) (v : V) : (putK kvs k v).length <= kvs.length + 1 := by
  unfold putK
  split
  · rw [List.length_map]; omega
  · rw [List.length_append, List.length_cons, List.length_nil]; omega
theorem RelO.isSome_eq {o : Option V} {u : Option Value} (r : RelO o u) : o.isSome = u.isSome := by
  cases o with
  | none => cases u with
    | none => rfl
    | some _ => exact (show False from r).elim
  | some _ => cases u with
    | none => exact (show False from r).elim
    | some _ => rfl
theorem RelO.getD {o : Option V} {u : Option Value} {d : V} {d' : Value} (r : RelO o u) (rd : RelV d d') : RelV (o.getD d) (u.getD d') := by
  cases o with
  | none => cases u with
    | none => exact rd
    | some _ => exact (show False from r).elim
  | some _ => cases u with
    | none => exact (show False from r).elim
    | some _ => exact r
theorem KV.val {kvs : List (κ × V)} {vs : List (κ × Value)} (r : KV kvs vs) (k : κ) : RelO (valV kvs k) (valueAt vs k) := by
  unfold KV at r
  induction r with
  | nil => exact True.intro
  | @cons p q ps qs h t ih =>
    obtain ⟨h1, h2⟩ := h
    by_cases e : p.1 = k
    · have e' : q.1 = k := h1.symm.trans e
      have b : valueAt (q :: qs) k = some q.2 := by simp [valueAt, List.find?_cons, e']
      rw [zeC e, b]; exact h2
    · have e' : ¬ q.1 = k := fun z => e (h1.trans z)
      have b : valueAt (q :: qs) k = valueAt qs k := by simp [valueAt, List.find?_cons, e']
      rw [zev e, b]; exact ih
theorem KV.any {kvs : List (κ × V)} {vs : List (κ × Value)} (r : KV kvs vs) (k : κ) : (kvs.any fun kv => decide (kv.1 = k)) = vs.any fun kv => decide (kv.1 = k) := by
  unfold KV at r
  induction r with
  | nil => rfl
  | cons h t ih => rw [List.any_cons, List.any_cons, ih, h.1]
theorem KV.repl {kvs : List (κ × V)} {vs : List (κ × Value)} (r : KV kvs vs) (k : κ) {y : V} {u : Value} (ry : RelV y u) :
    KV (kvs.map fun kv => if kv.1 = k then (kv.1, y) else kv) (vs.map fun kv => if kv.1 = k then (kv.1, u) else kv) := by
  unfold KV at r ⊢
  induction r with
  | nil => exact .nil
  | @cons p q ps qs h t ih =>
    rw [List.map_cons, List.map_cons]
    refine .cons ?_ ih
    obtain ⟨h1, h2⟩ := h
    by_cases e : p.1 = k
    · rw [if_pos e, if_pos (h1.symm.trans e)]; exact ⟨h1, ry⟩
    · rw [if_neg e, if_neg (fun z => e (h1.trans z))]; exact ⟨h1, h2⟩
theorem KV.put {kvs : List (κ × V)} {vs : List (κ × Value)} (r : KV kvs vs) (k : κ) {y : V} {u : Value} (ry : RelV y u) : KV (putK kvs k y) (stored vs k u) := by
  unfold putK stored
  rw [r.any k]
  by_cases e : (vs.any fun kv => decide (kv.1 = k)) = true
  · rw [if_pos e, if_pos e]; exact r.repl k ry
  · rw [if_neg e, if_neg e]; exact Paired.snoc r ⟨rfl, ry⟩
theorem KV.length {kvs : List (κ × V)} {vs : List (κ × Value)} (r : KV kvs vs) : kvs.length = vs.length := Paired.length r
end
theorem znA {P : Program} {w : World} {k : Key} {u : Value} (r : RelV (kV k) u) : (mixKind P w).is k u = true := by
  cases k with
  | inl i => obtain ⟨t, e⟩ := (show ∃ t, u = Value.int i t from r); subst e; exact zja P w i t
  | inr x => obtain ⟨t, e⟩ := (show ∃ t, u = Value.str x t from r); subst e; exact zi9 P w x t
theorem zik {P : Program} {w : World} : ∀ {ks : List Key} {us : List Value}, Vals (ks.map kV) us -> ItemsAre (mixKind P w) ks us
  | [], _, r => by rw [List.map_nil] at r; cases r; exact .nil
  | k :: ks, _, r => by
    rw [List.map_cons] at r
    cases r with
    | cons h t => exact .cons (znA h) (zik t)
abbrev KT (H : Hp) : List (List Key × V) -> List (List Key × Addr × Value) -> Prop := Paired fun p q => p.1 = q.1 /\ H q.2.1 = some (.tup (p.1.map kV)) /\ RelV p.2 q.2.2
theorem KT.val {H : Hp} {kvs : List (List Key × V)} {xs : List (List Key × Addr × Value)} (r : KT H kvs xs) (k : List Key) : RelO (valV kvs k) ((atKey xs k).map (·.2)) := by
  induction r with
  | nil => exact True.intro
  | @cons p q ps qs h t ih =>
    obtain ⟨h1, _, h2⟩ := h
    by_cases e : p.1 = k
    · have e' : q.1 = k := h1.symm.trans e
      have b : atKey (q :: qs) k = some q.2 := by simp [atKey, List.find?_cons, e']
      rw [zeC e, b]; exact h2
    · have e' : ¬ q.1 = k := fun z => e (h1.trans z)
      have b : atKey (q :: qs) k = atKey qs k := by simp [atKey, List.find?_cons, e']
      rw [zev e, b]; exact ih
theorem KT.repl {H : Hp} {kvs : List (List Key × V)} {xs : List (List Key × Addr × Value)} (r : KT H kvs xs) (k : List Key) {y : V} {u : Value} (ry : RelV y u) :
    KT H (kvs.map fun kv => if kv.1 = k then (kv.1, y) else kv) (xs.map (putAt k u)) := by
  induction r with
  | nil => exact .nil
  | @cons p q ps qs h t ih =>
    rw [List.map_cons, List.map_cons]
    refine .cons ?_ ih
    obtain ⟨h1, h2, h3⟩ := h
    unfold putAt
    by_cases e : p.1 = k
    · rw [if_pos e, if_pos (h1.symm.trans e)]; exact ⟨h1, h2, ry⟩
    · rw [if_neg e, if_neg (fun z => e (h1.trans z))]; exact ⟨h1, h2, h3⟩
theorem KT.put {H : Hp} {kvs : List (List Key × V)} {xs : List (List Key × Addr × Value)} (r : KT H kvs xs) (k : List Key) {b : Addr} {y : V} {u : Value} (hb : H b = some (.tup (k.map kV))) (ry : RelV y u) :
    KT H (putK kvs k y) (storedH xs k b u) := by
  have e : (kvs.any fun kv => decide (kv.1 = k)) = (atKey xs k).isSome := by
    rw [zjR, (r.val k).isSome_eq, Option.isSome_map]
  unfold putK storedH
  rw [e]
  by_cases q : (atKey xs k).isSome = true
  · rw [if_pos q, if_pos q]; exact r.repl k ry
  · rw [if_neg q, if_neg q]; exact Paired.snoc r ⟨rfl, hb, ry⟩
theorem KT.keeps {H H' : Hp} {kvs : List (List Key × V)} {xs : List (List Key × Addr × Value)} (r : KT H kvs xs) (ht : ∀ b ys, H b = some (.tup ys) -> H' b = some (.tup ys)) : KT H' kvs xs :=
  Paired.mapP r fun _ _ z => ⟨z.1, ht _ _ z.2.1, z.2.2⟩
section
variable {P : Program} {w : World} {H : Hp} {h : Heap} {a : Addr}
theorem zpL {u : HO} (ok : HOk P w H h) (e : Rd H a u) : ObjOk P w H h a u := e.ok ok
theorem zoe {kvs : List (Key × V)} (ok : HOk P w H h) (e : Rd H a (.dK kvs)) : kvs.length <= sizeLine /\ (a == sysModules) = false /\ ∃ vs, KV kvs vs /\ h.DictOf (mixKind P w) a vs :=
  show ObjOk P w H h a (.dK kvs) from zpL ok e
theorem zp1 {kvs : List (Key × V)} (ok : HOk P w H h) (e : H a = some (.dK kvs)) : kvs.length <= sizeLine /\ (a == sysModules) = false /\ ∃ vs, KV kvs vs /\ h.DictOf (mixKind P w) a vs := zoe ok (.inl e)
theorem zmt {ks : List Key} (ok : HOk P w H h) (e : H a = some (.tup (ks.map kV))) : (tupleKind (mixKind P w)).is h ks a := by
  obtain ⟨_, its, r, o, h1, h2, n, h3⟩ := (show ObjOk P w H h a (.tup (ks.map kV)) from ok a _ e)
  exact ⟨o, its.toArray, n, h1, h2, h3, by simpa using zik r⟩
theorem zo5 {kvs : List (List Key × V)} (ok : HOk P w H h) (e : Rd H a (.dT kvs)) : kvs.length <= sizeLine /\ (a == sysModules) = false /\
    ∃ xs, KT H kvs xs /\ h.DictOfH (tupleKind (mixKind P w)) a xs := by
  obtain ⟨z, y, xs, r, o, es, ep, h1, h2, h3, h4, h5⟩ := (show ObjOk P w H h a (.dT kvs) from zpL ok e)
  refine ⟨z, y, xs, r, o, es, ep, h1, h2, h3, h4, fun x hx => ?_, h5⟩
  have all : ∀ {l : List (List Key × V)} {m : List (List Key × Addr × Value)}, KT H l m -> ∀ x ∈ m, (tupleKind (mixKind P w)).is h x.1 x.2.1 := by
    intro l m q
    induction q with
    | nil => intro x hx; exact nomatch hx
    | @cons p q ps qs hq t ih =>
      intro x hx
      rcases List.mem_cons.mp hx with e | hx
      · subst e
        exact zmt ok (by rw [<- hq.1]; exact hq.2.1)
      · exact ih x hx
  exact all r x hx
theorem zqn {kvs : List (List Key × V)} (ok : HOk P w H h) (e : H a = some (.dT kvs)) : kvs.length <= sizeLine /\ (a == sysModules) = false /\
    ∃ xs, KT H kvs xs /\ h.DictOfH (tupleKind (mixKind P w)) a xs := zo5 ok (.inl e)
end
def DGet (H : Hp) (a : Addr) (y : V) (r : Option V) : Prop :=
  (∃ kvs k, Rd H a (.dK kvs) /\ y = kV k /\ r = valV kvs k) \/ ∃ kvs k b, Rd H a (.dT kvs) /\ y = .ref b /\ H b = some (.tup (k.map kV)) /\ r = valV kvs k
def DPut (H : Hp) (a : Addr) (y v : V) (H' : Hp) : Prop :=
  (∃ kvs k, H a = some (.dK kvs) /\ y = kV k /\ kvs.length < sizeLine /\ H' = upd H a (.dK (putK kvs k v))) \/
  ∃ kvs k b, H a = some (.dT kvs) /\ y = .ref b /\ H b = some (.tup (k.map kV)) /\ kvs.length < sizeLine /\ H' = upd H a (.dT (putK kvs k v))
section
variable {X : Cx} {pins : List (Addr × Obj)} {σ : St} {H : Hp} {s : Shared} {a : Addr} {y v : V} {u r : Value} {o : Option V} {A : Around} {E : Value -> Shared -> Prop}
theorem Inv.big (I : Inv X pins σ H s) : sysModules < s.heap.objs.size := by
  have h : mainGlobals < s.heap.objs.size := (I.mod.glob.keeps I.bk).lt
  exact Nat.lt_trans (by decide) h
theorem ziS {h' : Heap} {t' : Nat} {ob : HO} (I : Inv X pins σ H s) (mu : Mut (H a)) (hs : Heap.SameBut a s.heap h') (he : ∃ q, h'.get? a = some q) (new : ObjOk X.prog X.w (upd H a ob) h' a ob) :
    Inv X pins σ (upd H a ob) { s with heap := h', toks := t' } :=
  I.write (x := a) (e := a) mu (.inl rfl) (fun b q hb z => (hs.2 b hb).trans z) he new
theorem znG {P : Program} {w : World} {H' : Hp} {h' : Heap} {kvs : List (Key × V)} {vs : List (Key × Value)} (z : kvs.length <= sizeLine) (hd : (a == sysModules) = false) (rel : KV kvs vs) (dd : h'.DictOf (mixKind P w) a vs) :
    ObjOk P w H' h' a (.dK kvs) := ⟨z, hd, vs, rel, dd⟩
theorem zlm {H' : Hp} {Q : Unit -> Shared -> Prop} (hu : A.units + 1 < cLine) (I : Inv X pins σ H s) (g : DPut H a y v H') (ry : RelV y u) (rv : RelV v r) (h : ∀ s', Inv X pins σ H' s' -> Q () s') :
    wpAny (model X.prog X.w) A (setItem (.ref a) u r) Q E s := by
  rcases g with ⟨kvs, k, e, ey, l, eH⟩ | ⟨kvs, k, b, e, ey, eb, l, eH⟩
  · subst ey eH
    obtain ⟨z, hd, vs, rel, dd⟩ := zp1 I.hok e
    have hz : vs.length <= sizeLine := by rw [<- rel.length]; exact z
    have hl : (putK kvs k v).length <= sizeLine := by have := zd7 kvs k v; omega
    refine wpAny_setItem_pairs (hsz := hz) (znA ry) dd fun h' dd' hs => h _ ?_
    have he : ∃ q, h'.get? a = some q := let ⟨q, _, _, hq, _⟩ := dd'; ⟨q, hq⟩
    exact ziS I (by rw [e]; exact True.intro) hs he (znG hl hd (rel.put k rv) dd')
  · subst ey eH
    cases (show u = Value.ref b from ry)
    obtain ⟨z, hd, xs, rel, dd⟩ := zqn I.hok e
    have hz : xs.length <= sizeLine := by rw [<- Paired.length rel]; exact z
    have hl : (putK kvs k v).length <= sizeLine := by have := zd7 kvs k v; omega
    refine wpAny_setItem_heap (hsz := hz) (tupleKind_room_in1 hu) (zmt I.hok eb) dd fun h' dd' hs => h _ ?_
    obtain ⟨q, es, ep, hq, h2, h3, h4, _, h5⟩ := dd'
    refine ziS I (by rw [e]; exact True.intro) hs ⟨q, hq⟩ ⟨hl, hd, _, (rel.put k eb rv).keeps fun c ys ec => ?_, q, es, ep, hq, h2, h3, h4, h5⟩
    rw [zV (zqq ec e (fun z => nomatch z))]
    exact ec
end
section
variable {X : Cx} {pins : List (Addr × Obj)} {σ : St} {H : Hp} {s : Shared} {a : Addr} {kvs : List (Key × V)} {k : Key} {u : Value} {A : Around} {E : Value -> Shared -> Prop}
end
def sDPut (td ty tv : TE) : TS := fun D σ H => tv σ H fun v H1 => td σ H1 fun x H2 => ty σ H2 fun y H3 => ∃ a H4, x = .ref a /\ DPut H3 a y v H4 /\ D.nx σ H4
section
variable {X : Cx} {o i e value : Expr} {pos pos' tpos : Pos} {td ty tv : TE}
theorem zoE (hu : X.A.units + 1 < cLine) (ho : PE X o td) (hi : PE X i ty) (hv : PE X value tv) (hs : swapsWith value (some (.Subscript o i pos')) pos.line X.env = pure false) :
    PS X (.Assign [.Subscript o i pos'] value pos) (sDPut td ty tv) := by
  intro pins s σ H D I h
  refine wpAny_Assign_Subscript (thn (hv pins s σ H _ I h) fun r s1 ⟨v, H1, I1, rv, q1⟩ => thn (ho pins s1 σ H1 _ I1 q1) fun u s2 ⟨x, H2, I2, rx, q2⟩ => thn (hi pins s2 σ H2 _ I2 q2) fun iv s3 ⟨y, H3, I3, ry, a, H4, ex, g, q3⟩ => ?_) hs
  subst ex
  obtain rfl : u = Value.ref a := rx
  exact zlm hu I3 g ry rv fun s4 I4 => ⟨σ, H4, I4, q3⟩
end
theorem znh {P : Program} {w : World} {H : Hp} (h : Heap) (hb : sysModules < h.objs.size) : ObjOk P w H (h.push { cls := .type "dict", data := .dict #[] }) h.objs.size (.dK []) :=
  ⟨Nat.zero_le _, beq_eq_false_iff_ne.mpr (Ne.symm (Nat.ne_of_lt hb)), [], .nil, Heap.DictOf.new h⟩
theorem zmL {P : Program} {w : World} {H : Hp} (h : Heap) (hb : sysModules < h.objs.size) : ObjOk P w H (h.push { cls := .type "dict", data := .dict #[] }) h.objs.size (.dT []) :=
  ⟨Nat.zero_le _, beq_eq_false_iff_ne.mpr (Ne.symm (Nat.ne_of_lt hb)), [], .nil, _, #[], 0, Heap.get?_push_size _ rfl, ⟨rfl, rfl, rfl⟩, rfl, rfl, List.nodup_nil⟩
def tDNewT : TE := fun _ H Q => ∀ p, H p = none -> Q (.ref p) (upd H p (.dT []))
section
variable {X : Cx} {pos : Pos}
theorem pe_dnewT : PE X (.Dict [] [] pos) tDNewT := fun pins s σ H Q I h =>
  wpAny_Dict_empty ⟨.ref s.heap.objs.size, _, I.laid (a := s.heap.objs.size) (o := .dT []) (t' := s.toks) (fun _ _ q => Heap.get?_push_of_some _ q) (Nat.le_refl _) (zmL s.heap I.big), rfl, h _ (I.hok.fresh (Nat.le_refl _))⟩
end
def tPairs : List (TE × TE) -> St -> Hp -> (List (V × V) -> Hp -> Prop) -> Prop
  | [], _, H, Q => Q [] H
  | (tk, tv) :: r, σ, H, Q => tk σ H fun x H1 => tv σ H1 fun y H2 => tPairs r σ H2 fun ps H3 => Q ((x, y) :: ps) H3
abbrev VV : List (V × V) -> List (Value × Value) -> Prop := Paired fun p q => RelV p.1 q.1 /\ RelV p.2 q.2
def PPs (X : Cx) (pos : Pos) (keys : List (Option Expr)) (values : List Expr) (trs : List (TE × TE)) : Prop :=
  ∀ (pins : List (Addr × Obj)) (s : Shared) (σ : St) (H : Hp) (Q : List (V × V) -> Hp -> Prop), Inv X pins σ H s -> tPairs trs σ H Q ->
    wpAny (model X.prog X.w) X.A (evalPairs (pairTrees keys values X.env pos)) (fun vs s' => ∃ ps H', Inv X pins σ H' s' /\ VV ps vs /\ Q ps H') X.xe s
theorem zoB {X : Cx} {pos : Pos} : PPs X pos [] [] [] := fun pins s σ H Q I h => pairTrees_nil_walk ⟨[], H, I, .nil, h⟩
theorem zmG {X : Cx} {pos : Pos} {k v : Expr} {ks : List (Option Expr)} {vs : List Expr} {tk tv : TE} {trs : List (TE × TE)} (hk : PE X k tk) (hv : PE X v tv) (hr : PPs X pos ks vs trs) :
    PPs X pos (some k :: ks) (v :: vs) ((tk, tv) :: trs) := fun pins s σ H Q I h =>
  pairTrees_cons_walk (thn (hk pins s σ H _ I h) fun u s1 ⟨x, H1, I1, rx, q1⟩ => thn (hv pins s1 σ H1 _ I1 q1) fun w2 s2 ⟨y, H2, I2, ry, q2⟩ =>
    thn (hr pins s2 σ H2 _ I2 q2) fun ws s3 ⟨ps, H3, I3, rel, q3⟩ => ⟨(x, y) :: ps, H3, I3, .cons ⟨rx, ry⟩ rel, q3⟩)
def mergeK (kvs more : List (Key × V)) : List (Key × V) := more.foldl (fun acc kv => putK acc kv.1 kv.2) kvs
theorem KV.merge : ∀ {more : List (Key × V)} {rs : List (Key × Value)} {kvs : List (Key × V)} {vs : List (Key × Value)}, KV more rs -> KV kvs vs -> KV (mergeK kvs more) (merged vs rs) := by
  intro more rs kvs vs r
  unfold KV at r
  induction r generalizing kvs vs with
  | nil => intro q; exact q
  | @cons p q ps qs h t ih =>
    intro r0
    have e : KV (putK kvs p.1 p.2) (stored vs q.1 q.2) := by
      have := r0.put p.1 h.2
      rw [<- h.1]; exact this
    exact ih e
theorem zez : ∀ (more kvs : List (Key × V)), (mergeK kvs more).length <= kvs.length + more.length
  | [], kvs => by show kvs.length <= kvs.length + 0; omega
  | p :: r, kvs => by
    have h1 := zez r (putK kvs p.1 p.2)
    have h2 := zd7 kvs p.1 p.2
    show (mergeK (putK kvs p.1 p.2) r).length <= _
    rw [List.length_cons]; omega
theorem zgY {P : Program} {w : World} : ∀ {kvs : List (Key × V)} {ws : List (Value × Value)}, VV (kvs.map fun kv => (kV kv.1, kv.2)) ws -> ∃ rs, Carries (mixKind P w) ws rs /\ KV kvs rs
  | [], _, r => by rw [List.map_nil] at r; cases r; exact ⟨[], True.intro, .nil⟩
  | p :: kvs, _, r => by
    rw [List.map_cons] at r
    cases r with
    | @cons a b as bs h t =>
      obtain ⟨rs, c, q⟩ := zgY (P := P) (w := w) t
      obtain ⟨b1, b2⟩ := b
      exact ⟨(p.1, b2) :: rs, ⟨znA h.1, rfl, c⟩, .cons ⟨rfl, h.2⟩ q⟩
def tDisp (trs : List (TE × TE)) : TE := fun σ H Q => ∀ p, H p = none -> tPairs trs σ (upd H p (.dK [])) fun ps H2 => H2 p = some (.dK []) /\ ∃ kvs : List (Key × V), ps = kvs.map (fun kv => (kV kv.1, kv.2)) /\ kvs.length <= 15 /\ Q (.ref p) (upd H2 p (.dK (mergeK [] kvs)))
theorem zoC {X : Cx} {pos : Pos} {keys : List (Option Expr)} {values : List Expr} {trs : List (TE × TE)} (h : PPs X pos keys values trs) (hall : keys.all (·.isSome) = true) (hl : keys.length = values.length) (h0 : keys ≠ [])
    (h15 : keys.length <= 15) : PE X (.Dict keys values pos) (tDisp trs) := by
  intro pins s σ H Q I q
  have hn := I.hok.fresh (Nat.le_refl s.heap.objs.size)
  have I1 := I.laid (a := s.heap.objs.size) (o := .dK []) (h' := s.heap.push { cls := .type "dict", data := .dict #[] }) (t' := s.toks) (fun _ _ q => Heap.get?_push_of_some _ q) (Nat.le_refl _) (znh s.heap I.big)
  refine wpAny_Dict_walk (knd := mixKind X.prog X.w) hall hl h0 h15 (thn (h pins _ σ _ _ I1 (q _ hn)) fun ws s2 ⟨ps, H2, I2, rel, e, kvs, ep, lk, q2⟩ => ?_)
  subst ep
  obtain ⟨rs, c, rk⟩ := zgY (P := X.prog) (w := X.w) rel
  obtain ⟨z, hd, vs0, r0, dd⟩ := zp1 I2.hok e
  cases r0
  refine ⟨rs, c, dd, fun h' dd' hs => ⟨.ref s.heap.objs.size, _, ?_, rfl, q2⟩⟩
  have hz : (mergeK [] kvs).length <= sizeLine := by
    have h1 := zez kvs []
    rw [List.length_nil] at h1
    rw [sizeLine_eq]; omega
  have he : ∃ q, h'.get? s.heap.objs.size = some q := let ⟨q, _, _, hq, _⟩ := dd'; ⟨q, hq⟩
  exact ziS I2 (by rw [e]; exact True.intro) hs he (znG hz hd (rk.merge .nil) dd')
structure M2 (X : Cx) (o : Expr) (m : Str) (apos : Pos) (e f : Expr) (cpos : Pos) : Prop where
  base : attributeBase o m X.env (eval o X.env) = eval o X.env
  few : ((backTo cpos (starEach [e, f] X.env)).all (fun x => !x.1) && (backToKw cpos (keywordEach [] X.env)).all (fun x => x.1.isSome)
    && decide (([e, f] : List Expr).length + ([] : List Keyword).length + (if ([] : List Keyword).isEmpty then 0 else 1) < 30)) = true
  line : (apos.endLine == cpos.line) = true
  trees : backTo cpos (starEach [e, f] X.env) = [(false, eval e X.env), (false, eval f X.env)]
def IsD (H : Hp) (a : Addr) : Prop := (∃ kvs, Rd H a (.dK kvs)) \/ ∃ kvs, Rd H a (.dT kvs)
theorem zpz {X : Cx} {pins : List (Addr × Obj)} {σ : St} {H : Hp} {s : Shared} {a : Addr} (I : Inv X pins σ H s) (d : IsD H a) :
    s.TypeIs (.ref a) "dict" /\ (∀ b, Value.ref a = .ref b -> ∃ ob, s.heap.get? b = some ob /\ ob.dict = none) /\ (a == sysModules) = false := by
  rcases d with ⟨kvs, e⟩ | ⟨kvs, e⟩
  · obtain ⟨_, hd, vs, _, dd⟩ := zoe I.hok e
    refine ⟨dd.typeIs, fun b q => ?_, hd⟩
    cases q
    obtain ⟨ob, _, _, h1, h2, _⟩ := dd
    exact ⟨ob, h1, h2.2.1⟩
  · obtain ⟨_, hd, xs, _, dd⟩ := zo5 I.hok e
    refine ⟨dd.typeIs, fun b q => ?_, hd⟩
    cases q
    obtain ⟨ob, _, _, h1, h2, _⟩ := dd
    exact ⟨ob, h1, h2.2.1⟩
section
variable {X : Cx} {pins : List (Addr × Obj)} {σ : St} {H : Hp} {s : Shared} {a : Addr} {y d : V} {u r : Value} {o : Option V} {A : Around} {E : Value -> Shared -> Prop}
theorem zp8 {Q : Value -> Shared -> Prop} (hu : A.units + 1 < cLine) (I : Inv X pins σ H s) (g : DGet H a y o) (ry : RelV y u) (rd : RelV d r) (h : ∀ w' s', Inv X pins σ H s' -> RelV (o.getD d) w' -> Q w' s') :
    wpAny (model X.prog X.w) A (call (.builtin "dict.get") [.ref a, u, r]) Q E s := by
  rcases g with ⟨kvs, k, e, ey, l⟩ | ⟨kvs, k, b, e, ey, eb, l⟩
  · subst ey
    obtain ⟨z, hd, vs, rel, dd⟩ := zoe I.hok e
    refine call_meetsIn PySem.F.slot_dict_get dd.typeIs PySem.F.entry_dict_get (PySem.F.args_dict_get_3 _ _ _) (meets_dict_get_default (mixKind X.prog X.w) a (znA ry) hd r) ⟨_, dd.mapOf, h _ _ (I.tok _) ?_⟩
    rw [l]
    exact (rel.val k).getD rd
  · subst ey
    cases (show u = Value.ref b from ry)
    obtain ⟨z, hd, xs, rel, dd⟩ := zo5 I.hok e
    refine call_meetsIn PySem.F.slot_dict_get dd.typeIs PySem.F.entry_dict_get (PySem.F.args_dict_get_3 _ _ _) (meetsH_dict_get_default (tupleKind (mixKind X.prog X.w)) a b hd r) ⟨tupleKind_room_in1 hu, k, xs, zmt I.hok eb, dd, h _ _ (I.tok _) ?_⟩
    rw [l]
    exact (rel.val k).getD rd
end
def tDGet2 (td ty tx : TE) : TE := fun σ H Q => td σ H fun x H1 => ∃ a, x = .ref a /\ IsD H1 a /\ ty σ H1 fun y H2 => tx σ H2 fun z H3 => ∃ o, DGet H3 a y o /\ Q (o.getD z) H3
section
variable {X : Cx} {o e f : Expr} {apos cpos : Pos} {td ty tx : TE}
theorem zm3 (hu : X.A.units + 1 < cLine) (ho : PE X o td) (he : PE X e ty) (hf : PE X f tx) (m : M2 X o "get" apos e f cpos) : PE X (.Call (.Attribute o "get" apos) [e, f] [] cpos) (tDGet2 td ty tx) := by
  intro pins s σ H Q I h
  refine wpAny_Call_method m.base m.few m.line PySem.F.plainAttrs_dict PySem.F.slot_dict_get PySem.F.type_dict_get (thn (ho pins s σ H _ I h) fun u s1 ⟨x, H1, I1, rx, a, ex, d, q1⟩ => ?_)
  subst ex
  obtain rfl : u = Value.ref a := rx
  obtain ⟨t1, t2, _⟩ := zpz I1 d
  refine ⟨t1, t2, ?_⟩
  rw [m.trees]
  refine Calls.callWith_builtin rfl (Calls.evalArgs_plain (Calls.spliced_cons (thn (he pins s1 σ H1 _ I1 q1) fun iv s2 ⟨y, H2, I2, ry, q2⟩ =>
    Calls.spliced_cons (thn (hf pins s2 σ H2 _ I2 q2) fun fv s3 ⟨z, H3, I3, rz, ov, g, q3⟩ => Calls.spliced_nil ?_))))
  exact zp8 hu I3 g ry rz fun w' s4 I4 rw' => ⟨_, H3, I4, rw', q3⟩
end
section
variable {X : Cx} {pins : List (Addr × Obj)} {σ : St} {H : Hp} {s : Shared} {a : Addr} {kvs : List (Key × V)} {A : Around} {E : Value -> Shared -> Prop}
end
section
variable {X : Cx} {pins : List (Addr × Obj)} {σ : St} {H : Hp} {s : Shared} {a : Addr} {y : V} {u : Value} {A : Around} {E : Value -> Shared -> Prop}
end
end L2
namespace WE
open PySem PySem.Spec PyProof.Rows
open AutoSeq1 (wpAny_loadPart')
section
variable {pg : Program} {wd : World} {A : Around} {Er : Value -> Shared -> Prop} {s : Shared}
theorem zkp {it t : Addr} {i : Nat} {xs : Array Value} {x : Value} {Q : Value -> Shared -> Prop} (hi : s.heap.IsTupleIter it t i) (ht : s.heap.IsTuple t xs) (hx : xs[i]? = some x)
    (k : ∀ h', h'.IsTupleIter it t (i + 1) -> Heap.SameBut it s.heap h' -> Q x { s with heap := h' }) : wpAny (model pg wd) A (Builtin.SmallTypes.nextOf (.ref it)) Q Er s := by
  obtain ⟨oi, gi, ci, di⟩ := id hi
  obtain ⟨ot, gt, _, nt, dt⟩ := ht
  unfold Builtin.SmallTypes.nextOf
  refine wpAny_bind (wpAny_callSpecial?_slot (name := Str.ofString "__next__") hi.typeIs F.slot_tuple_iterator_next (wpAny_call_entry F.slot_tuple_iterator_next hi.typeIs F.entry_tuple_iterator_next ?_ (F.args_tuple_iterator_next_1 _)))
  show wpAny _ _ (field (.ref it) 0 >>= _) _ _ _
  refine wpAny_bind (wpAny_field gi di (x := .ref t) rfl ?_); show wpAny _ _ (if (Value.ref t == Value.none) = true then _ else _) _ _ _
  rw [if_neg (show ¬ ((Value.ref t == Value.none) = true) from fun z => Bool.false_ne_true z)]; show wpAny _ _ (field (.ref it) 1 >>= _) _ _ _
  refine wpAny_bind (wpAny_field gi di (x := .int i 0) rfl ?_); show wpAny _ _ (seqItems? (.ref t) >>= _) _ _ _
  refine wpAny_bind (wpAny_seqItems gt dt ?_)
  simp only [Int.toNat_natCast, hx]
  refine wpAny_bind (wpAny_setField gi di (by simp) (wpAny_pure ⟨x, rfl, wpAny_pure (k _ ?_ (Heap.SameBut.update ..))⟩))
  refine ⟨_, Heap.get?_update_self _ gi (Obj.isFreed_of_fields (Obj.data_mapFields di _)), (Obj.cls_mapFields ..).trans ci, ?_⟩
  rw [Obj.data_mapFields di]; simp [rawInt]
theorem zmh {it t : Addr} {i : Nat} {xs : Array Value} {Q : Value -> Shared -> Prop} (hh : A.handled = none) (hi : s.heap.IsTupleIter it t i) (ht : s.heap.IsTuple t xs) (hx : xs[i]? = none)
    (k : ∀ h' e, Heap.ExtBut it s.heap h' -> (∃ o, h'.get? e = some o /\ o.cls = .type "StopIteration") -> Er (.ref e) { s with heap := h' }) : wpAny (model pg wd) A (Builtin.SmallTypes.nextOf (.ref it)) Q Er s := by
  obtain ⟨oi, gi, ci, di⟩ := id hi
  obtain ⟨ot, gt, _, nt, dt⟩ := ht
  unfold Builtin.SmallTypes.nextOf
  refine wpAny_bind (wpAny_callSpecial?_slot (name := Str.ofString "__next__") hi.typeIs F.slot_tuple_iterator_next (wpAny_call_entry F.slot_tuple_iterator_next hi.typeIs F.entry_tuple_iterator_next ?_ (F.args_tuple_iterator_next_1 _)))
  show wpAny _ _ (field (.ref it) 0 >>= _) _ _ _
  refine wpAny_bind (wpAny_field gi di (x := .ref t) rfl ?_); show wpAny _ _ (if (Value.ref t == Value.none) = true then _ else _) _ _ _
  rw [if_neg (show ¬ ((Value.ref t == Value.none) = true) from fun z => Bool.false_ne_true z)]; show wpAny _ _ (field (.ref it) 1 >>= _) _ _ _
  refine wpAny_bind (wpAny_field gi di (x := .int i 0) rfl ?_); show wpAny _ _ (seqItems? (.ref t) >>= _) _ _ _
  refine wpAny_bind (wpAny_seqItems gt dt ?_)
  simp only [Int.toNat_natCast, hx]
  refine wpAny_bind (wpAny_rule (wpAny_bind (wpAny_setField gi di (by simp) ?_))); show wpAny _ _ (newExc (.type "StopIteration") [] >>= _) _ _ _
  refine wpAny_bind ?_; simp only [newExc, newTuple]
  refine wpAny_bind (wpAny_newObj_type ?_ (by size_fits)); refine wpAny_bind (m := firstArgMember _ _) (wpAny_of_eq (a := Value.none) (by first | rfl | (simp only [firstArgMember]; rfl)) ?_)
  refine wpAny_newObj_type ?_ (by size_fits); simp only [raiseNew]
  refine wpAny_bind (wpAny_handled ?_); first | rw [show A.in1.handled = none from hh] | rw [hh]
  refine wpAny_bind (wpAny_pure (wpAny_throw ?_))
  exact k _ _ (((Heap.SameBut.update ..).extBut.push _).push _) ⟨_, Heap.get?_push_size _ rfl, rfl⟩
end
theorem draws_tuple {pg : Program} {wd : World} {A : Around} (hh : A.handled = none) (it t : Addr) (hne : t ≠ it) (xs : Array Value) :
    Draws pg wd A it [it, t] xs.size (fun i v => xs[i]? = some v) (fun i h => h.IsTupleIter it t i /\ h.IsTuple t xs) where
  live := fun _ _ st => let ⟨o, g, _⟩ := st.1; ⟨o, g⟩
  frame := fun _ _ _ st kp => ⟨let ⟨o, g, r⟩ := st.1; ⟨o, kp it (by simp) o g, r⟩, let ⟨o, g, r⟩ := st.2; ⟨o, kp t (by simp) o g, r⟩⟩
  item := fun i s Q E hi st hQ => zkp st.1 st.2 (x := xs[i]) (by simp [hi]) fun h' hit' hs' => hQ _ h' s.toks (by simp [hi]) ⟨hit', st.2.extBut hs'.extBut hne⟩ hs'
  done := fun s Q E st hE => zmh hh st.1 st.2 (by simp) hE
theorem ziD (l : Addr) (xs : Array Value) (n : Nat) (dc : Option Addr) (sl : Array (Option Value)) :
    Meets (Builtin.«enumerate.__new__» ⟨[.type "enumerate", .ref l], []⟩) (fun _ R s => s.heap.get? l = some { cls := .type "tuple", dict := dc, data := .seq xs n, slots := sl } /\
      R (.ok (.ret (.ref (s.heap.push { cls := .type "tuple_iterator", data := .fields #[.ref l, .int 0 0] }).objs.size)))
        { s with heap := (s.heap.push { cls := .type "tuple_iterator", data := .fields #[.ref l, .int 0 0] }).push { cls := .type "enumerate", data := .fields #[.none, .bool false, .ref s.heap.objs.size, rawInt 0, .none, .none] } }) :=
  .of_wp fun prog w A R s h => by
    obtain ⟨hp, g, d, tk, os⟩ := s; obtain ⟨gl, h⟩ := h
    have hsub := sub_enumerate
    have hT : Heap.IsTuple (Shared.heap ⟨hp, g, d, tk, os⟩) l xs := ⟨_, gl, rfl, n, rfl⟩
    wp_walk using wpAny_loadPart' gl
    refine wpAny_stack_any fun st => wpAny_pure ?_
    split
    · rename_i c _ _ _ _ _
      cases (c == Value.type "enumerate")
      · wp_walk using wpAny_loadPart' gl, wpAny_pyIter_tuple hT
        exact ⟨_, rfl, h⟩
      · wp_walk using wpAny_loadPart' gl, wpAny_pyIter_tuple hT
        exact ⟨_, rfl, h⟩
    · wp_walk using wpAny_loadPart' gl, wpAny_pyIter_tuple hT
      exact ⟨_, rfl, h⟩
theorem call_enumT {pg : Program} {wd : World} {A : Around} {Er : Value -> Shared -> Prop} {s : Shared} {l : Addr} {xs : Array Value} {Q : Value -> Shared -> Prop} (hT : s.heap.IsTuple l xs)
    (k : ∀ h', IsEnum h' (s.heap.objs.size + 1) s.heap.objs.size 0 .none -> h'.IsTupleIter s.heap.objs.size l 0 -> h'.objs.size = s.heap.objs.size + 2 ->
      (∀ b o, s.heap.get? b = some o -> h'.get? b = some o) -> Q (.ref (s.heap.objs.size + 1)) { s with heap := h' }) : wpAny (model pg wd) A (call (.type "enumerate") [.ref l]) Q Er s := by
  obtain ⟨⟨c, dct, dt, sl⟩, gl, hc, n, hd⟩ := hT
  cases (show c = .type "tuple" from hc)
  cases (show dt = .seq xs n from hd)
  refine callType_new F.called_enumerate (by decide) (F.typeCall_enumerate_1 _) (F.newCall_enumerate_1 _) (fun obj => F.args_object_init_2 obj _) F.entry_enumerate_new (ziD l xs n dct sl) ⟨gl, ?_⟩
  have hz : (s.heap.push { cls := .type "tuple_iterator", data := .fields #[.ref l, .int 0 0] }).objs.size = s.heap.objs.size + 1 := Heap.size_push ..
  show _ /\ _
  rw [hz]
  have he : IsEnum ((s.heap.push { cls := .type "tuple_iterator", data := .fields #[.ref l, .int 0 0] }).push { cls := .type "enumerate", data := .fields #[.none, .bool false, .ref s.heap.objs.size, rawInt 0, .none, .none] }) (s.heap.objs.size + 1) s.heap.objs.size 0 .none := by
    have q := Heap.get?_push_size (s.heap.push { cls := .type "tuple_iterator", data := .fields #[.ref l, .int 0 0] }) (o := { cls := .type "enumerate", data := .fields #[.none, .bool false, .ref s.heap.objs.size, rawInt 0, .none, .none] }) rfl
    rw [hz] at q; exact q
  exact ⟨⟨_, he, rfl⟩, k _ he ⟨_, Heap.get?_push_of_some _ (Heap.get?_push_size _ rfl), rfl, rfl⟩ (by rw [Heap.size_push, hz]) fun b o y => Heap.get?_push_of_some _ (Heap.get?_push_of_some _ y)⟩
end WE
namespace L2
open PySem PySem.Spec PyProof.Rows
section
variable {X : Cx}
def CDivB (i j : Int) : Prop := 0 < j /\ j < 10000000000000000000000000000000000000000000000000000000000000000000000
theorem zny : OpR X (binaryOp .FloorDiv) (rI CDivB fun i j => .int (i / j)) := opI fun i j _ _ _ _ _ hc q => by
  obtain ⟨h1, h2⟩ := hc
  refine floordiv_int (by omega) (by rw [Int.fdiv_eq_ediv_of_nonneg i (by omega)]; exact q) (.inl (PyProof.noPylong_of_log2 ?_))
  have h0 : j.natAbs ≠ 0 := by omega
  refine Nat.lt_of_lt_of_le ((Nat.log2_lt h0).mpr (?_ : j.natAbs < 2 ^ 250)) (by decide)
  have e : (10000000000000000000000000000000000000000000000000000000000000000000000 : Nat) < 2 ^ 250 := by decide
  omega
end
section
variable {X : Cx} {pins : List (Addr × Obj)} {σ : St} {H : Hp} {s : Shared} {h' : Heap}
theorem Inv.turnLaid {t' : Nat} {ch : List Addr} {T : Addr} {o : HO} (I : Inv X pins σ H s) (hf : ∀ b ∈ ch, FpOk X pins H b) (k : ∀ b u, b ∉ ch -> s.heap.get? b = some u -> h'.get? b = some u)
    (hp : s.heap.objs.size <= T) (new : ObjOk X.prog X.w (upd H T o) h' T o) : Inv X pins σ (upd H T o) { s with heap := h', toks := t' } := by
  have hn : H T = none := I.hok.fresh hp
  have nch : ∀ b u, H b = some u -> b ∉ ch := fun b u e z => by
    have q := (hf b z).1
    rw [e] at q
    cases q
  refine I.step (g' := s.gens) (d' := s.drawn) (ch := ch) (fun b hb => ?_) (fun b u _ _ hc e _ => k b u hc e) (fun b u _ _ hc e _ => ⟨u.slots, k b u hc e⟩) (fun b u _ e n => ?_) (fun b u hc e => ⟨u, k b u hc e⟩) (fun b xs e => ?_) (fun b u v e => ?_) (fun b ps e => ⟨#[], ?_⟩) (fun m hm => ?_) (fun b u e => ?_) I.bare
  · obtain ⟨f0, f1, f2, f3, f4, f5⟩ := hf b hb
    exact ⟨f3, f1, f4, f5⟩
  · rw [zV (Nat.ne_of_lt (Nat.lt_of_lt_of_le (Heap.lt_size e) hp))]
    exact n
  · rw [zV (z7 e hn)]
    exact e
  · rw [zV (z7 e hn)]
    exact e
  · rw [zV (z7 e hn), e]
    simp
  · obtain ⟨ob, es, ep, ho, r⟩ := hm
    exact ⟨ob, es, ep, k _ ob (fun z => (hf _ z).2.1 rfl) ho, r⟩
  · by_cases hb : b = T
    · subst hb
      rw [zar] at e
      cases e
      exact new
    · rw [zV hb] at e
      refine (I.hok b u e).stay (fun c v hc q => k c v ?_ q) (fun c q => by rw [zV (z7 q hn)]; exact q) fun c xs q => by rw [zV (z7 q hn)]; exact q
      rcases hc with z | z
      · rw [z]
        exact nch b u e
      · exact nch c _ z
theorem Inv.turnedL {t' : Nat} {ch : List Addr} (I : Inv X pins σ H s) (hf : ∀ b ∈ ch, FpOk X pins H b) (k : ∀ b u, b ∉ ch -> s.heap.get? b = some u -> h'.get? b = some u) : Inv X pins σ H { s with heap := h', toks := t' } := by
  have nch : ∀ b u, H b = some u -> b ∉ ch := fun b u e z => by
    have q := (hf b z).1
    rw [e] at q
    cases q
  refine I.step (g' := s.gens) (d' := s.drawn) (ch := ch) (fun b hb => ?_) (fun b u _ _ hc e _ => k b u hc e) (fun b u _ _ hc e _ => ⟨u.slots, k b u hc e⟩) (fun _ _ _ _ n => n) (fun b u hc e => ⟨u, k b u hc e⟩) (fun _ _ e => e) (fun _ _ _ e => e) (fun b ps e => ⟨#[], by rw [e]; simp⟩) (fun m hm => ?_) (fun b u e => ?_) I.bare
  · obtain ⟨f0, f1, f2, f3, f4, f5⟩ := hf b hb
    exact ⟨f3, f1, f4, f5⟩
  · obtain ⟨ob, es, ep, ho, r⟩ := hm
    exact ⟨ob, es, ep, k _ ob (fun z => (hf _ z).2.1 rfl) ho, r⟩
  · refine (I.hok b u e).stay (fun c v hc q => k c v ?_ q) (fun _ q => q) fun _ _ q => q
    rcases hc with z | z
    · rw [z]
      exact nch b u e
    · exact nch c _ z
end
def Ite (K : PySem.W.Frag) (a : Addr) : It :=
  ⟨fun i H => ∃ xs x, SqT K H a xs /\ xs[i]? = some x, fun i H x H' => ∃ T, H T = none /\ x = .ref T /\ ∀ xs y, SqT K H a xs -> xs[i]? = some y -> H' = upd H T (.tup [.int i, y]), fun i H => ∃ xs, SqT K H a xs /\ xs.length = i⟩
theorem zgQ {h : Heap} {a b : Addr} {o u : Obj} (x : h.get? a = some o) (y : h.get? b = some u) (z : o.cls ≠ u.cls) : a ≠ b := fun e => by
  subst e
  rw [x] at y
  cases y
  exact z rfl
theorem zkg {P : Program} {w : World} {K : PySem.W.Frag} {es : List Expr} {kk : Nat} {pos : Pos} (a e it : Addr) :
    Turn P w K (.Tuple es kk pos) (Ite K a) [e, it] e (fun i h => (∃ old, IsEnum h e it i old) /\ h.IsTupleIter it a i) where
  mem := by simp
  obj := fun i h st b hb => by
    obtain ⟨⟨old, he⟩, oi, gi, ci, di⟩ := st
    rcases List.mem_cons.mp hb with z | z
    · subst z
      exact ⟨_, he, fun v y => nomatch y⟩
    · have z : b = it := by simpa using z
      subst z
      exact ⟨oi, gi, fun v y => by rw [di] at y; cases y⟩
  keep := fun i h h' st k => by
    obtain ⟨⟨old, he⟩, oi, gi, r⟩ := st
    exact ⟨⟨old, k e (by simp) _ he⟩, oi, k it (by simp) _ gi, r⟩
  item := by
    intro X hP hw hK hc i pins s σ H E I hf st hg
    subst hP hw hK
    obtain ⟨xs, x, hq, hx⟩ := hg
    obtain ⟨its, rv, p, hz⟩ := I.tuple hq
    obtain ⟨⟨old, he⟩, hi⟩ := st
    obtain ⟨oi, gi, ci, di⟩ := id hi
    obtain ⟨oa, ga, ca, na, da⟩ := id p
    have nai : a ≠ it := zgQ ga gi (by rw [ca, ci]; exact fun z => absurd (Value.type.inj z) (by decide))
    have nei : e ≠ it := zgQ he gi (by rw [ci]; exact fun z => absurd (Value.type.inj z) (by decide))
    have nea : e ≠ a := zgQ he ga (by rw [ca]; exact fun z => absurd (Value.type.inj z) (by decide))
    have hl := rv.length
    have hil : i < its.toArray.size := by
      have := (List.getElem?_eq_some_iff.mp hx).1
      simpa using (by omega : i < its.length)
    have W := WalksT.enumerateD (prog := X.prog) (w := X.w) (A := X.A) (WE.draws_tuple (pg := X.prog) (wd := X.w) (A := X.A.in1) (I.ok.hd hc) it a nai its.toArray) e nei (by simp [nei, nea]) (by simp)
    refine W.item i s _ E hil ⟨⟨old, he⟩, hi, p⟩ fun T vals h1 tk hP hsz hT mid kp => ⟨.ref T, rfl, ?_⟩
    refine W.go es kk pos i T _ _ E mid fun h2 st2 kp2 => ?_
    obtain ⟨t, y, hy, rfl⟩ := hP
    obtain ⟨u, hu, ru⟩ := rv.get hx
    have ey : y = u := Option.some.inj (hy.symm.trans (by simpa using hu))
    subst ey
    have hch : ∀ b o, b ∉ [e, it] -> s.heap.get? b = some o -> h2.get? b = some o := fun b o hb q => kp2 b o hb (kp b o hb q)
    have hTw := W.apart i T h1 mid
    have new : ObjOk X.prog X.w (upd H T (.tup [.int i, x])) h2 T (.tup [.int i, x]) := by
      obtain ⟨o, g, r⟩ := hT
      exact ⟨by show 2 <= sizeLine; decide, [.int i t, y], .cons ⟨t, rfl⟩ (.cons ru .nil), o, kp2 T o hTw g, r⟩
    have I2 := I.turnLaid (t' := tk) hf hch hsz new
    refine ⟨.ref T, _, I2, rfl, ⟨T, I.hok.fresh hsz, rfl, fun ys z hy' hz' => ?_⟩, ⟨st2.1, st2.2.1⟩, fun b hb => ?_⟩
    · rw [I.tuple_inj hy' hq] at hz'
      rw [hx] at hz'
      cases hz'
      rfl
    · rw [zV (fun z : b = T => hTw (z ▸ hb))]
      exact (hf b hb).1
  done := by
    intro X hP hw hK hc i pins s σ H E I hf st hg
    subst hP hw hK
    obtain ⟨xs, hq, hx⟩ := hg
    obtain ⟨its, rv, p, hz⟩ := I.tuple hq
    obtain ⟨⟨old, he⟩, hi⟩ := st
    obtain ⟨oi, gi, ci, di⟩ := id hi
    obtain ⟨oa, ga, ca, na, da⟩ := id p
    have nai : a ≠ it := zgQ ga gi (by rw [ca, ci]; exact fun z => absurd (Value.type.inj z) (by decide))
    have nei : e ≠ it := zgQ he gi (by rw [ci]; exact fun z => absurd (Value.type.inj z) (by decide))
    have nea : e ≠ a := zgQ he ga (by rw [ca]; exact fun z => absurd (Value.type.inj z) (by decide))
    have hl := rv.length
    have W := WalksT.enumerateD (prog := X.prog) (w := X.w) (A := X.A) (WE.draws_tuple (pg := X.prog) (wd := X.w) (A := X.A.in1) (I.ok.hd hc) it a nai its.toArray) e nei (by simp [nei, nea]) (by simp)
    have en : its.toArray.size = i := by simp; omega
    refine W.done s _ E (by rw [en]; exact ⟨⟨old, he⟩, hi, p⟩) fun h2 tk kp => ⟨rfl, I.turnedL (t' := tk) hf kp⟩
  self := fun _ _ _ _ _ st q => by
    obtain ⟨⟨old, he⟩, _⟩ := st
    exact wpAny_pyIter_enum he q
def iEnT (K : PySem.W.Frag) (ta : TA) : TI := fun σ H R => ta σ H fun vs H1 => ∃ a, vs = [.ref a] /\ (∃ xs, SqT K H1 a xs) /\ R (Ite K a) H1
theorem znp {X : Cx} {a : Expr} {es : List Expr} {kk : Nat} {tp : Pos} {ta : TA} {p pos : Pos} (hg : Gl X "enumerate") (hm : X.mg "enumerate" = none) (ha : PA X [a] ta) (hs : starEach [a] X.env = [(false, eval a X.env)] := by rfl) :
    PI X (.Tuple es kk tp) (.Call (.Name "enumerate" p) [a] [] pos) (iEnT X.K ta) := by
  intro pins s σ H R I h
  refine wpAny_Call_Name_kw (zg5 I hg hm boot_enumerate ?_)
  refine PyProof.Rows.callWith_type1 (thn (ha pos pins s σ H _ I h) fun us s1 ⟨vs, H1, I1, r1, q1⟩ => ?_) hs rfl
  obtain ⟨l, rfl, ⟨xs, hq⟩, q⟩ := q1
  obtain ⟨u, rfl, ru⟩ := Vals.one r1
  cases (show u = Value.ref l from ru)
  obtain ⟨its, rv, pt, hz⟩ := I1.tuple hq
  refine WE.call_enumT (show s1.heap.IsTuple l its.toArray from pt) fun h1 he hi hsz kp => ?_
  refine wpAny_pyIter_enum he ?_
  refine ⟨_, [s1.heap.objs.size + 1, s1.heap.objs.size], _, _, H1, rfl, I1.kept (t' := s1.toks) kp, zkg l _ s1.heap.objs.size, ⟨⟨_, he⟩, hi⟩, fun b hb => ?_, q⟩
  have hb2 : s1.heap.objs.size <= b := by
    rcases List.mem_cons.mp hb with z | z
    · subst z
      exact Nat.le_succ _
    · have z : b = s1.heap.objs.size := by simpa using z
      subst z
      exact Nat.le_refl _
  exact I1.fpOk hb2 (I1.hok.fresh hb2)
end L2
namespace L2
open PySem PySem.Spec PyProof.Rows
abbrev No : Value -> Shared -> Prop := fun _ _ => False
abbrev ifsOf (ifs : List Expr) (env : Env) : Sem Bool := forIn ifs true fun c r => if r = true then do let ok <- isTrue c env (eval c env); pure (ForInStep.yield ok) else pure (ForInStep.yield r)
section
variable {pg : Program} {wd : World} {A : Around} {R : Result -> Shared -> Prop} {s : Shared}
theorem zmi {elt tg iter : Expr} {ifs : List Expr} {sc : Scope} {pos : Pos} {it acc : Value} {env : Env} (I : Nat -> Shared -> Prop)
    (turn : ∀ n s, I n s -> wpAny (model pg wd) A (pyNext it) (fun r s1 => match r with
      | none => R (.ok .next) s1
      | some v => wpAny (model pg wd) A (letOwnedTupleGo tg it v) (fun _ s2 => wpAny (model pg wd) A (assign tg env v) (fun _ s3 => wpAny (model pg wd) A (ifsOf ifs env) (fun ok s4 =>
          if ok = true then wpAny (model pg wd) A (eval elt env) (fun x s5 => wpAny (model pg wd) A (call (.builtin "list.append") [acc, x]) (fun _ s6 => ∃ m, m < n /\ I m s6) No s5) No s4
          else ∃ m, m < n /\ I m s4) No s3) No s2) No s1) No s)
    (n : Nat) (h : I n s) : codeAny (model pg wd) A (.compLoop (.ListComp elt [⟨tg, iter, ifs, 0⟩] sc pos) 0 it acc env) R s := by
  refine codeAny_loop rfl I (fun n s hI => ?_) n h
  show wpAny _ A ((compTurn (.ListComp elt [⟨tg, iter, ifs, 0⟩] sc pos) 0 it acc env).onRaise (fun x => do noteFrame x env; theTreesLotGoes x)) _ _ s
  refine wpAny_noted ?_
  rw [compTurn_list]
  refine wpAny_bind (wpAny_standAt (wpAny_bind (wpAny_mono (turn n s hI) (fun r s1 h1 => ?_) fun _ _ f => f.elim)))
  cases r with
  | none => exact wpAny_pure h1
  | some v =>
    refine wpAny_bind (wpAny_mono h1 (fun _ s2 h2 => wpAny_bind (wpAny_mono h2 (fun _ s3 h3 => wpAny_bind (wpAny_mono h3 (fun ok s4 h4 => ?_) fun _ _ f => f.elim)) fun _ _ f => f.elim)) fun _ _ f => f.elim)
    cases ok with
    | false => exact wpAny_pure ⟨rfl, h4⟩
    | true => exact wpAny_bind (wpAny_bind (wpAny_mono h4 (fun x s5 h5 => wpAny_bind (wpAny_mono h5 (fun _ s6 h6 => wpAny_pure (wpAny_pure ⟨rfl, h6⟩)) fun _ _ f => f.elim)) fun _ _ f => f.elim))
end
def clStep (env : Env) (r : List (Str × Addr)) (x : Str × NameKind) : List (Str × Addr) := if x.2 = .free then (x.1, (env.cells.lookup x.1).getD 0) :: r else r
def clOf (sc : Scope) (env : Env) : List (Str × Addr) := sc.names.foldl (clStep env) []
theorem zjX {α β : Type} {l : List α} {f : α -> β -> Sem (ForInStep β)} {g : β -> α -> β} (h : ∀ x ∈ l, ∀ c, f x c = pure (.yield (g c x))) : ∀ c : β, forIn l c f = pure (l.foldl g c) := by
  induction l with
  | nil => exact fun _ => rfl
  | cons x l ih =>
    intro c
    rw [List.forIn_cons, h x List.mem_cons_self, pure_bind, List.foldl_cons]
    exact ih (fun y hy => h y (List.mem_cons_of_mem _ hy)) (g c x)
theorem zgv {sc : Scope} {env : Env} (hf : ∀ y ∈ sc.names, y.2 = .free -> ∃ c, env.cells.lookup y.1 = some c) : closureFor sc env = pure (clOf sc env) := by
  simp only [closureFor]
  rw [zjX (g := clStep env) (fun x hx c => ?_)]
  · rfl
  · obtain ⟨n, k⟩ := x
    by_cases hk : k = .free
    · subst hk
      obtain ⟨a, ha⟩ := hf _ hx rfl
      have ha' : env.cells.lookup n = some a := ha
      simp [clStep, cellOf, ha']
    · have hb : (k == NameKind.free) = false := by simpa using hk
      simp [clStep, hk, hb]
theorem zg2 {env : Env} : ∀ (l : List (Str × NameKind)) (r : List (Str × Addr)), (∀ y ∈ l, y.2 = .free -> ∃ c, env.cells.lookup y.1 = some c) -> (∀ x c, r.lookup x = some c -> env.cells.lookup x = some c) ->
    ∀ x c, (l.foldl (clStep env) r).lookup x = some c -> env.cells.lookup x = some c
  | [], r, _, h => h
  | y :: l, r, hf, h => by
    refine zg2 l (clStep env r y) (fun z hz => hf z (List.mem_cons_of_mem _ hz)) fun x c e => ?_
    unfold clStep at e
    by_cases hk : y.2 = .free
    · obtain ⟨a, ha⟩ := hf y List.mem_cons_self hk
      rw [if_pos hk, List.lookup_cons] at e
      cases hx : x == y.1 with
      | true =>
        rw [hx, ha] at e
        rw [eq_of_beq hx, ha]
        exact e
      | false =>
        rw [hx] at e
        exact h x c e
    · rw [if_neg hk] at e
      exact h x c e
theorem zgo {env : Env} {x : Str} : ∀ (l : List (Str × NameKind)) (r : List (Str × Addr)), (∃ c, r.lookup x = some c) -> ∃ c, (l.foldl (clStep env) r).lookup x = some c
  | [], r, h => h
  | y :: l, r, h => by
    refine zgo l (clStep env r y) ?_
    unfold clStep
    by_cases hk : y.2 = .free
    · rw [if_pos hk, List.lookup_cons]
      cases hx : x == y.1 with
      | true => exact ⟨_, rfl⟩
      | false => exact h
    · rw [if_neg hk]
      exact h
theorem zeN {env : Env} : ∀ (l : List (Str × NameKind)) (r : List (Str × Addr)), ∀ y ∈ l, y.2 = .free -> ∃ c, (l.foldl (clStep env) r).lookup y.1 = some c
  | [], _, y, hy, _ => nomatch hy
  | z :: l, r, y, hy, hk => by
    rcases List.mem_cons.mp hy with e | e
    · subst e
      refine zgo l (clStep env r y) ?_
      unfold clStep
      rw [if_pos hk, List.lookup_cons, beq_self_eq_true]
      exact ⟨_, rfl⟩
    · exact zeN l (clStep env r z) y e hk
theorem mem_of_lookup {β : Type} {x : Str} {k : β} : ∀ {l : List (Str × β)}, l.lookup x = some k -> (x, k) ∈ l
  | [], h => nomatch h
  | y :: l, h => by
    rw [List.lookup_cons] at h
    cases hx : x == y.1 with
    | true =>
      rw [hx] at h
      cases h
      rw [eq_of_beq hx]
      exact List.mem_cons_self
    | false =>
      rw [hx] at h
      exact List.mem_cons_of_mem _ (mem_of_lookup h)
def relK (env : Env) (x : Str) (k : NameKind) : NameKind := if (k == .free && env.scope.kind == .function && env.kindOf x == some .cell) = true then .cell else k
theorem zg4 {sc : Scope} {env : Env} (x : Str) : (relabel sc env).names.lookup x = (sc.names.lookup x).map (relK env x) := by
  unfold relabel
  show (sc.names.map fun (n, k) => if (k == NameKind.free && env.scope.kind == .function && env.kindOf n == some .cell) then (n, NameKind.cell) else (n, k)).lookup x = _
  induction sc.names with
  | nil => rfl
  | cons y l ih =>
    obtain ⟨n, k⟩ := y
    rw [List.map_cons]
    show List.lookup x ((if (k == NameKind.free && env.scope.kind == .function && env.kindOf n == some .cell) = true then (n, NameKind.cell) else (n, k)) :: _) = _
    cases hx : x == n with
    | true =>
      have e := eq_of_beq hx
      subst e
      by_cases hc : (k == NameKind.free && env.scope.kind == .function && env.kindOf x == some .cell) = true
      · rw [if_pos hc, List.lookup_cons, beq_self_eq_true]
        simp [relK, hc]
      · rw [if_neg hc, List.lookup_cons, beq_self_eq_true]
        simp [relK, hc]
    | false =>
      by_cases hc : (k == NameKind.free && env.scope.kind == .function && env.kindOf n == some .cell) = true
      · rw [if_pos hc]
        simp only [List.lookup_cons, hx]
        exact ih
      · rw [if_neg hc]
        simp only [List.lookup_cons, hx]
        exact ih
structure CI where
  C : Addr
  s : Shared
  H : Hp
  fp : List Addr
def cxC (X : Cx) (sc : Scope) (NC : List Str) (j : CI) : Cx where
  prog := X.prog
  w := X.w
  K := X.K
  mg := X.mg
  base := X.base
  A := X.A
  N := NC
  s₀ := j.s
  H₀ := j.H
  env := compEnvC sc (clOf sc X.env) j.C X.env
  outer := X.stack
  stack := X.stack
  ex := j.fp
  fn := fun _ => false
  calm := X.calm
  pn := []
  xe := No
def inn (slots : List (Option Nat)) (σ : St) : St := slots.map fun o => o.bind fun j => (σ[j]?).join
structure CompOk (X : Cx) (sc : Scope) (NC : List Str) (slots : List (Option Nat)) : Prop where
  kind : sc.kind = .function
  names : ∀ y ∈ sc.names, y.2 = .local -> sc.names.lookup y.1 = some .local
  nocell : ∀ y ∈ sc.names, y.2 ≠ .cell
  free : ∀ y ∈ sc.names, y.2 = .free -> X.env.scope.names.lookup y.1 = some .cell
  slot : ∀ (i : Nat) (x : Str) (j : Nat), NC[i]? = some x -> slots[i]? = some (some j) -> X.N[j]? = some x /\ sc.names.lookup x = some .free
  len : slots.length = NC.length
theorem compOk {X : Cx} {sc : Scope} {NC : List Str} {slots : List (Option Nat)} (N : List Str) (so : Scope) (hN : X.N = N) (hs : X.env.scope = so) (kind : sc.kind = .function)
    (names : ∀ y ∈ sc.names, y.2 = .local -> sc.names.lookup y.1 = some .local) (nocell : ∀ y ∈ sc.names, y.2 ≠ .cell) (free : ∀ y ∈ sc.names, y.2 = .free -> so.names.lookup y.1 = some .cell)
    (slot : ∀ p ∈ NC.zip slots, (p.2.all fun j => decide (N[j]? = some p.1 /\ sc.names.lookup p.1 = some .free)) = true) (len : slots.length = NC.length) : CompOk X sc NC slots := by
  subst hN hs
  refine ⟨kind, names, nocell, free, fun i x j e1 e2 => ?_, len⟩
  have hm : (x, some j) ∈ NC.zip slots := List.mem_of_getElem? (i := i) (by rw [List.getElem?_zip_eq_some]; exact ⟨e1, e2⟩)
  have := slot _ hm
  simpa using this
section
variable {X : Cx} {sc : Scope} {NC : List Str} {slots : List (Option Nat)} {pins : List (Addr × Obj)} {σ : St} {H : Hp} {s : Shared}
theorem CompOk.cells (O : CompOk X sc NC slots) (ok : X.Ok) : ∀ y ∈ sc.names, y.2 = .free -> ∃ c, X.env.cells.lookup y.1 = some c := fun y hy hk => ok.has y.1 (.inl (O.free y hy hk))
theorem CompOk.sub (O : CompOk X sc NC slots) (ok : X.Ok) : ∀ x c, (clOf sc X.env).lookup x = some c -> X.env.cells.lookup x = some c := zg2 sc.names [] (O.cells ok) fun _ _ e => nomatch e
theorem CompOk.rel (O : CompOk X sc NC slots) (ok : X.Ok) {x : Str} (h : sc.names.lookup x = some .free) : (relabel sc X.env).names.lookup x = some .cell := by
  rw [zg4, h]
  have e : X.env.kindOf x = some .cell := O.free _ (mem_of_lookup h) rfl
  simp [relK, ok.kind, e]
theorem zj0 (I : Inv X pins σ H s) (O : CompOk X sc NC slots) {fp : List Addr} (hf : ∀ b ∈ fp, FpOk X pins H b) (hob : ∀ b ∈ fp, ∃ o, s.heap.get? b = some o) {h1 : Heap} {t' : Nat} {m : Str -> Option Value} (hns : h1.Ns s.heap.objs.size m)
    (hk : ∀ b o, s.heap.get? b = some o -> h1.get? b = some o) : Inv (cxC X sc NC ⟨s.heap.objs.size, s, H, fp⟩) [] (inn slots σ) H { s with heap := h1, toks := t' } := by
  have sub := O.sub I.ok
  have fss : ∀ b, b ≠ X.env.locals -> b ∉ X.fs -> b ∉ frs X.stack := fun b h1 h2 hb => (List.mem_cons.mp (I.stkSub b hb)).elim h1 h2
  have ltC : ∀ x c, (clOf sc X.env).lookup x = some c -> c < s.heap.objs.size := fun x c e => by
    obtain ⟨v, q⟩ := I.cell x c (sub x c e)
    exact q.lt
  refine ⟨⟨I.ok.mod, O.kind, I.ok.glob, I.ok.blt, Nat.le_refl _, fun x y c e1 e2 => I.ok.inj x y c (sub x c e1) (sub y c e2), fun x hx => ?_, fun _ _ z => (nomatch z), I.ok.hd, I.ok.frames, .inl rfl, fun b hb => ⟨?_, fun x c e => (hf b hb).2.2.2.2.1 x c (sub x c e)⟩, I.bs, Nat.le_trans I.ok.bsz I.sz, fun b o e hb => ?_, fun b hb => fss b (hf b hb).2.1 (hf b hb).2.2.1, I.stack, I.stkFree⟩,
    rfl, I.bare, Un.kept hk, ⟨m, hns, fun i x v e1 e2 e3 => ?_⟩, fun x c e => ?_, I.hok.fresh (Nat.le_refl _), fun x c e => I.freeC x c (sub x c e), fun p hp => (nomatch hp), I.hok.kept hk, ?_⟩
  · have hx' : (relabel sc X.env).names.lookup x = some .cell \/ (relabel sc X.env).names.lookup x = some .free := hx
    rw [zg4] at hx'
    cases q : sc.names.lookup x with
    | none =>
      rw [q] at hx'
      rcases hx' with z | z <;> cases z
    | some k =>
      have hm := mem_of_lookup q
      have hkf : k = .free := by
        rw [q] at hx'
        have nc := O.nocell _ hm
        by_cases hk : k = .free
        · exact hk
        · exfalso
          have hb : (k == NameKind.free) = false := by simpa using hk
          rcases hx' with z | z
          · simp [relK, hb] at z
            exact nc z
          · simp [relK, hb] at z
            exact hk z
      subst hkf
      exact zeN sc.names [] _ hm rfl
  · obtain ⟨o, e⟩ := hob b hb
    exact Nat.ne_of_lt (Heap.lt_size e)
  · rcases (hf b hb).2.2.2.1 with z | z
    · exact I.ok.noex b o e z
    · exact absurd (Nat.lt_of_lt_of_le (Heap.lt_size e) (Nat.le_trans I.ok.bsz z)) (Nat.lt_irrefl _)
  · obtain ⟨j, e4, e5⟩ : ∃ j, slots[i]? = some (some j) /\ σ[j]? = some (some v) := by
      have e2' : (slots.map fun o => o.bind fun j => (σ[j]?).join)[i]? = some (some v) := e2
      rw [List.getElem?_map] at e2'
      cases q : slots[i]? with
      | none =>
        rw [q] at e2'
        cases e2'
      | some o =>
        rw [q] at e2'
        cases o with
        | none => cases e2'
        | some j =>
          refine ⟨j, rfl, ?_⟩
          have e6 : (σ[j]?).join = some v := Option.some.inj e2'
          cases q2 : σ[j]? with
          | none =>
            rw [q2] at e6
            cases e6
          | some w =>
            rw [q2] at e6
            have e7 : w = some v := e6
            rw [e7]
    obtain ⟨e6, e7⟩ := O.slot i x j e1 e4
    have kc : X.env.scope.names.lookup x = some .cell := O.free _ (mem_of_lookup e7) rfl
    obtain ⟨m0, hn0, hl⟩ := I.loc
    obtain ⟨u, r, lk⟩ := hl j x v e6 e5 (.inr (.inl kc))
    refine ⟨u, r, .inr ⟨.inl (O.rel I.ok e7), ?_⟩⟩
    rcases lk with ⟨z, _⟩ | ⟨_, c, hc, o, ho, hd⟩
    · rw [show X.env.kindOf x = some .cell from kc] at z
      cases z
    · obtain ⟨c', hc'⟩ := zeN (env := X.env) sc.names [] _ (mem_of_lookup e7) rfl
      have e8 : c' = c := Option.some.inj ((sub x c' hc').symm.trans hc)
      subst e8
      exact ⟨c', hc', o, hk _ _ ho, hd⟩
  · obtain ⟨v, o, ho, hd⟩ := I.cell x c (sub x c e)
    exact ⟨v, o, hk _ _ ho, hd⟩
  · show (slots.map fun o => o.bind fun j => (σ[j]?).join).length = NC.length
    rw [List.length_map, O.len]
theorem zkG (I : Inv X pins σ H s) {fp : List Addr} (hf : ∀ b ∈ fp, FpOk X pins H b) {C : Addr} (hC : s.heap.objs.size <= C) {pl : List (Addr × Obj)} {σ' : St} {H' : Hp} {s' : Shared} (J : Inv (cxC X sc NC ⟨C, s, H, fp⟩) pl σ' H' s')
    {h2 : Heap} (hb : Heap.SameBut C s'.heap h2) : Inv X pins σ H' { s' with heap := h2 } := by
  have nC : ∀ b o, s.heap.get? b = some o -> b ≠ C := fun b o e => Nat.ne_of_lt (Nat.lt_of_lt_of_le (Heap.lt_size e) hC)
  have B : Un (frs X.stack) fp H H' s.heap s'.heap := J.base
  have fC : H' C = none := J.free
  refine I.call' (ch := fp) J.os ⟨fun b o e n h3 h4 => (hb.2 b (nC b o e)).trans (B.keep b o e n h3 h4), fun b o e n h3 h4 => ?_, B.free, fun b o e h4 => ?_, B.tups, B.frzs, B.tbls⟩ (fun b u e => ?_) J.bare fun b h3 => ⟨(hf b h3).2.2.2.1, (hf b h3).2.1, (hf b h3).2.2.2.2.1, (hf b h3).2.2.2.2.2⟩
  · obtain ⟨sl, q⟩ := B.slot b o e n h3 h4
    exact ⟨sl, (hb.2 b (nC b o e)).trans q⟩
  · obtain ⟨o', q⟩ := B.there b o e h4
    exact ⟨o', (hb.2 b (nC b o e)).trans q⟩
  · refine (J.hok b u e).stay (fun c v hc q => (hb.2 c fun z => ?_).trans q) (fun _ q => q) fun _ _ q => q
    subst z
    rcases hc with z | z
    · rw [z, e] at fC
      cases fC
    · rw [z] at fC
      cases fC
end
def PTs (X : Cx) (ifs : List Expr) (t : TT) : Prop :=
  ∀ (pins : List (Addr × Obj)) (s : Shared) (σ : St) (H : Hp) (Q : Bool -> Hp -> Prop), Inv X pins σ H s -> t σ H Q -> wpAny (model X.prog X.w) X.A (ifsOf ifs X.env) (TP X pins σ Q) X.xe s
def tYes : TT := fun _ H Q => Q true H
theorem zoo {X : Cx} : PTs X [] tYes := fun _ _ _ H _ I h => wpAny_tests_nil ⟨H, I, h⟩
def CompR (J : It) (D : Addr) (g : TG) (ti : TT) (te : TE) (W : Nat -> Nat -> St -> List V -> Hp -> Prop) (Q : Hp -> Prop) : Prop :=
  ∀ i m σc ys H2, W i m σc ys H2 -> H2 D = some (.lst ys) /\ ((J.stop i H2 /\ Q H2) \/ (J.go i H2 /\ ys.length < sizeLine /\ ∃ N : St -> List V -> Hp -> Prop, (∀ σ' ys' H', N σ' ys' H' -> ∃ m', m' < m /\ W (i + 1) m' σ' ys' H') /\
    ∀ x H3, J.yld i H2 x H3 -> g x σc H3 fun σ4 H4 => ti σ4 H4 fun b H5 => if b = true then te σ4 H5 fun y H6 => H6 D = some (.lst ys) /\ N σ4 (ys ++ [y]) (upd H6 D (.lst (ys ++ [y]))) else N σ4 ys H5))
def tComp (slots : List (Option Nat)) (wi : TI) (g : TG) (ti : TT) (te : TE) : TE := fun σ H Q => wi σ H fun J H1 => ∀ D, H1 D = none -> ∃ W : Nat -> Nat -> St -> List V -> Hp -> Prop, (∃ m, W 0 m (inn slots σ) [] (upd H1 D (.lst []))) /\ CompR J D g ti te W (Q (.ref D))
section
variable {X : Cx} {sc : Scope} {NC : List Str} {slots : List (Option Nat)} {elt tg iter : Expr} {ifs : List Expr} {pos : Pos} {g : TG} {ti : TT} {te : TE}
theorem zm9 (hc : X.calm = true) (hg : ∀ j, PG (cxC X sc NC j) tg g) (ht : ∀ j, PTs (cxC X sc NC j) ifs ti) (he : ∀ j, PE (cxC X sc NC j) elt te) {cj : CI} {it D : Addr} {tn : Nat -> Heap -> Prop} {J : It}
    {W : Nat -> Nat -> St -> List V -> Hp -> Prop} {Q : Hp -> Prop} {R : Result -> Shared -> Prop} {s : Shared} {σc : St} {ys : List V} {H : Hp} (T : Turn X.prog X.w X.K tg J cj.fp it tn)
    (I : Inv (cxC X sc NC cj) [] σc H s) (hf : ∀ b ∈ cj.fp, FpOk (cxC X sc NC cj) [] H b) (st : tn 0 s.heap) {m : Nat} (w0 : W 0 m σc ys H) (step : CompR J D g ti te W Q)
    (fin : ∀ σ' H' s', Inv (cxC X sc NC cj) [] σ' H' s' -> Q H' -> R (.ok .next) s') :
    codeAny (model X.prog X.w) X.A (.compLoop (.ListComp elt [⟨tg, iter, ifs, 0⟩] sc pos) 0 (.ref it) (.ref D) (cxC X sc NC cj).env) R s := by
  have stat : ∀ {H' : Hp}, (∀ b ∈ cj.fp, H' b = none) -> ∀ b ∈ cj.fp, FpOk (cxC X sc NC cj) [] H' b := fun hn b hb => ⟨hn b hb, (hf b hb).2⟩
  refine zmi (fun n s' => ∃ i σ' ys' H', Inv (cxC X sc NC cj) [] σ' H' s' /\ tn i s'.heap /\ (∀ b ∈ cj.fp, H' b = none) /\ W i n σ' ys' H') ?_ m ⟨0, σc, ys, H, I, st, fun b hb => (hf b hb).1, w0⟩
  rintro n s3 ⟨i, σ3, ys3, H3, I3, st3, fr3, w3⟩
  obtain ⟨hD, q⟩ := step i n σ3 ys3 H3 w3
  rcases q with ⟨stop, qn⟩ | ⟨go, hz, N, hN, turn⟩
  · refine thn (T.done (cxC X sc NC cj) rfl rfl rfl hc i [] s3 σ3 H3 No I3 (stat fr3) st3 stop) fun r s4 ⟨hr, I4⟩ => ?_
    subst hr
    exact fin σ3 H3 s4 I4 qn
  · refine thn (T.item (cxC X sc NC cj) rfl rfl rfl hc i [] s3 σ3 H3 No I3 (stat fr3) st3 go) fun r s4 ⟨u, hr, h4⟩ => ?_
    subst hr
    refine thn h4 fun _ s5 ⟨x, H5, I5, r5, y5, st5, fr5⟩ => ?_
    have I5' := I5.pinned (stat fr5) (T.obj _ _ st5)
    refine thn (hg cj _ s5 σ3 H5 x u _ I5' r5 (turn x H5 y5)) fun _ s6 ⟨σ6, H6, I6, q6⟩ => ?_
    refine thn (ht cj _ s6 σ6 H6 _ I6 q6) fun ok s7 ⟨H7, I7, q7⟩ => ?_
    have again : ∀ {σ8 : St} {ys8 : List V} {H8 : Hp} {s8 : Shared}, Inv (cxC X sc NC cj) ([] ++ pinsAt cj.fp s5.heap) σ8 H8 s8 -> N σ8 ys8 H8 -> ∃ m, m < n /\ ∃ i σ' ys' H', Inv (cxC X sc NC cj) [] σ' H' s8 /\ tn i s8.heap /\ (∀ b ∈ cj.fp, H' b = none) /\ W i m σ' ys' H' := fun {σ8 ys8 H8 s8} I8 n8 => by
      obtain ⟨m', hm, w8⟩ := hN σ8 ys8 H8 n8
      refine ⟨m', hm, i + 1, σ8, ys8, H8, I8.unpinned, T.keep _ _ _ st5 fun b hb o e => (I8.pin (b, o) (List.mem_append_right _ (List.mem_append_right _ (zdu hb e)))).1, fun b hb => ?_, w8⟩
      obtain ⟨o, e, d⟩ := T.obj _ _ st5 b hb
      exact (I8.pin (b, o) (List.mem_append_right _ (List.mem_append_right _ (zdu hb e)))).2.1
    cases ok with
    | false =>
      rw [if_neg Bool.false_ne_true] at q7 ⊢
      exact again I7 q7
    | true =>
      rw [if_pos rfl] at q7 ⊢
      refine thn (he cj _ s7 σ6 H7 _ I7 q7) fun y s8 ⟨v, H8, I8, r8, hD8, q8⟩ => ?_
      refine thn (zhM (X := cxC X sc NC cj) _ s8 σ6 H8 (.ref D) [v] (.ref D) [y] (fun z H' => z = .non /\ H' = upd H8 D (.lst (ys3 ++ [v]))) I8 rfl (.cons r8 .nil) ⟨D, ys3, v, rfl, rfl, hD8, hz, rfl, rfl⟩) fun z s9 ⟨zv, H9, I9, r9, e1, e2⟩ => ?_
      subst e2
      exact again I9 q8
theorem zkk (hc : X.calm = true) (O : CompOk X sc NC slots) (hg : ∀ j, PG (cxC X sc NC j) tg g) (ht : ∀ j, PTs (cxC X sc NC j) ifs ti) (he : ∀ j, PE (cxC X sc NC j) elt te) {pins : List (Addr × Obj)} {s : Shared} {σ : St} {H : Hp} (I : Inv X pins σ H s)
    {it : Addr} {fp : List Addr} {tn : Nat -> Heap -> Prop} {J : It} (T : Turn X.prog X.w X.K tg J fp it tn) (st : tn 0 s.heap) (hf : ∀ b ∈ fp, FpOk X pins H b) {Q : VK}
    (h : ∀ D, H D = none -> ∃ W : Nat -> Nat -> St -> List V -> Hp -> Prop, (∃ m, W 0 m (inn slots σ) [] (upd H D (.lst []))) /\ CompR J D g ti te W (Q (.ref D))) {RR : Value -> Addr -> Result -> Shared -> Prop}
    (fin : ∀ D C s' H', Q (.ref D) H' -> (∃ o m, s'.heap.get? C = some o /\ s'.heap.Ns C m /\ ∀ v, o.data ≠ .cell v) -> FpOk X pins H' C -> (∀ h2, Heap.SameBut C s'.heap h2 -> Inv X pins σ H' { s' with heap := h2 }) -> RR (.ref D) C (.ok .next) s') :
    wpAny (model X.prog X.w) X.A (newList []) (fun acc s3 => wpAny (model X.prog X.w) X.A (newFunctionEnv sc X.env.globals (clOf sc X.env) [] X.env.qual none .none (some X.env)) (fun cenv s4 =>
      codeAny (model X.prog X.w) X.A (.compStart (.ListComp elt [⟨tg, iter, ifs, 0⟩] sc pos) 0 (.ref it) acc { cenv with scope := relabel sc X.env }) (RR acc cenv.locals) s4) X.xe s3) X.xe s := by
  refine wpAny_newObj_type (wpAny_newFunctionEnv O.nocell (by intro y hy; simp at hy) (fun h1 hns1 hsb1 => ?_) O.kind)
  dsimp only at hns1 hsb1 ⊢
  have hDn : H s.heap.objs.size = none := I.hok.fresh (Nat.le_refl _)
  obtain ⟨W, ⟨m, w0⟩, step⟩ := h s.heap.objs.size hDn
  obtain ⟨s3, hs3⟩ : ∃ x : Shared, x = ({ s with heap := s.heap.push { cls := .type "list", dict := none, data := .seq ([] : List Value).toArray } } : Shared) := ⟨_, rfl⟩
  have e3 : s3.heap = s.heap.push { cls := .type "list", dict := none, data := .seq ([] : List Value).toArray } := by rw [hs3]
  rw [<- e3] at hns1 hsb1
  have hp3 : ∀ b o, s.heap.get? b = some o -> s3.heap.get? b = some o := fun b o e => by
    rw [e3]
    exact Heap.get?_push_of_some _ e
  have I3 : Inv X pins σ (upd H s.heap.objs.size (.lst [])) s3 := by
    have q := I.laid (a := s.heap.objs.size) (o := .lst []) (h' := s3.heap) (t' := s.toks) hp3 (Nat.le_refl _) ⟨Nat.zero_le _, [], _, .nil, by rw [e3]; exact Heap.get?_push_size _ rfl⟩
    rw [hs3] at q ⊢
    exact q
  have hf3 : ∀ b ∈ fp, FpOk X pins (upd H s.heap.objs.size (.lst [])) b := fun b hb => by
    obtain ⟨o, e, _⟩ := T.obj _ _ st b hb
    refine ⟨?_, (hf b hb).2⟩
    rw [zV (Nat.ne_of_lt (Heap.lt_size e))]
    exact (hf b hb).1
  have st3 : tn 0 s3.heap := T.keep _ _ _ st fun b _ o e => hp3 b o e
  have hob : ∀ b ∈ fp, ∃ o, s3.heap.get? b = some o := fun b hb => by
    obtain ⟨o, e, _⟩ := T.obj _ _ st3 b hb
    exact ⟨o, e⟩
  have hk1 : ∀ b o, s3.heap.get? b = some o -> h1.get? b = some o := fun b o e => hsb1.extBut b o (Nat.ne_of_lt (Heap.lt_size e)) (Heap.get?_push_of_some _ e)
  have J1 := zj0 (t' := s3.toks + ([] : List (Str × Value)).length) I3 O hf3 hob hns1 hk1
  have hfc : ∀ b ∈ fp, FpOk (cxC X sc NC ⟨s3.heap.objs.size, s3, upd H s.heap.objs.size (.lst []), fp⟩) [] (upd H s.heap.objs.size (.lst [])) b := fun b hb =>
    ⟨(hf3 b hb).1, (J1.ok.exf b hb).1, J1.ok.exfs b hb, .inl hb, (J1.ok.exf b hb).2, fun p hp => nomatch hp⟩
  have loop : codeAny (model X.prog X.w) X.A (.compLoop (.ListComp elt [⟨tg, iter, ifs, 0⟩] sc pos) 0 (.ref it) (.ref s.heap.objs.size) (cxC X sc NC ⟨s3.heap.objs.size, s3, upd H s.heap.objs.size (.lst []), fp⟩).env) (RR (.ref s.heap.objs.size) s3.heap.objs.size)
      { s3 with heap := h1, toks := s3.toks + ([] : List (Str × Value)).length } := by
    refine zm9 (D := s.heap.objs.size) (Q := Q (.ref s.heap.objs.size)) hc hg ht he T J1 hfc (T.keep _ _ _ st3 fun b _ o e => hk1 b o e) w0 step fun σ' H' s' J' q' => ?_
    have fC : H' s3.heap.objs.size = none := J'.free
    refine fin _ _ s' H' q' ?_ (I3.fpOk (Nat.le_refl _) fC) fun h2 hb => zkG I3 hf3 (Nat.le_refl _) J' hb
    obtain ⟨m', hn', _⟩ := J'.loc
    obtain ⟨o, es, ep, ho, hd, r⟩ := id hn'
    exact ⟨o, m', ho, hn', fun v z => by rw [hd] at z; cases z⟩
  have self := fun (RQ : Value -> Shared -> Prop) (EE : Value -> Shared -> Prop) => T.self X.A 0 { s3 with heap := h1, toks := s3.toks + ([] : List (Str × Value)).length } RQ EE (T.keep _ _ _ st3 fun b _ o e => hk1 b o e)
  subst hs3
  exact codeAny_compStart_list loop (self _ _ loop)
variable {wi : TI}
theorem zoJ (hc : X.calm = true) (O : CompOk X sc NC slots) (hi : PI X tg iter wi) (hg : ∀ j, PG (cxC X sc NC j) tg g) (ht : ∀ j, PTs (cxC X sc NC j) ifs ti) (he : ∀ j, PE (cxC X sc NC j) elt te)
    (hs : ∀ x, foldedSetIterable iter X.env x = pure x := by intro _; rfl) : PE X (.ListComp elt [⟨tg, iter, ifs, 0⟩] sc pos) (tComp slots wi g ti te) := by
  intro pins s σ H Q I h
  rw [eval_ListComp]
  refine wpAny_comprehension_free (use := none) rfl hs (zgv (O.cells I.ok)) O.kind O.names (thn (hi pins s σ H _ I h) fun v s1 h1 => thn h1 fun itv s2 h2 => ?_)
  obtain ⟨it, fp, tn, J, H2, rfl, I2, T, st2, f2, q2⟩ := h2
  refine zkk hc O hg ht he I2 T st2 f2 q2 fun D C s' H' q' ⟨o, m, ho, hn, _⟩ _ out => ⟨m, hn, fun h2 hb => ⟨.ref D, H', out h2 hb, rfl, q'⟩⟩
end
end L2
namespace L2
open PySem PySem.Spec PyProof.Rows
theorem zjx : ∀ {bs : List Bool} {us : List Value}, Vals (bs.map V.bl) us -> LSm.BoolsAre us bs
  | [], _, .nil => .nil
  | b :: bs, _, .cons r q => by
    cases (show _ = Value.bool b from r)
    exact .cons b (zjx q)
section
variable {X : Cx}
def rAll (K : PySem.W.Frag) : List V -> Hp -> VK -> Prop := fun xs H Q => ∃ (l : Addr) (bs : List Bool), xs = [.ref l] /\ SqL K H l (bs.map V.bl) /\ Q (.bl (bs.all id)) H
theorem zmy (hc : X.calm = true) : CallR X (.builtin "all") (rAll X.K) := by
  intro pins s σ H xs us Q I r h
  obtain ⟨l, bs, rfl, hq, q⟩ := h
  obtain ⟨u, rfl, ru⟩ := Vals.one r
  cases (show u = Value.ref l from ru)
  obtain ⟨its, rv, pl, hz⟩ := I.list hq
  have hb := zjx rv
  have hl := pl.isList
  have hlt : l < s.heap.objs.size := by
    obtain ⟨_, e, _⟩ := hl
    exact Heap.lt_size e
  refine call_all_walk (wpAny_pyIter_list hl ?_)
  refine ⟨s.heap.objs.size, [s.heap.objs.size, l], [s.heap.objs.size], its.toArray.size, _, _, fun i => (bs[i]?).getD true, rfl, Walks.list (A := X.A.in1) (I.ok.hd hc) _ l (Nat.ne_of_lt hlt) its.toArray, ⟨⟨_, Heap.get?_push_size _ rfl, rfl, rfl⟩, hl.push _⟩, fun i v s' Q' E' hP hQ => ?_, fun h' tk hk => ?_⟩
  · obtain ⟨b, e, rfl⟩ := hb.get i v (by simpa using hP)
    simp only [e, Option.getD_some] at hQ
    exact wpAny_truthy_bool hQ
  · have e : ((List.range its.toArray.size).all fun i => (bs[i]?).getD true) = bs.all id := by
      rw [List.size_toArray, hb.length]
      exact LSm.range_all bs
    rw [e]
    exact ⟨.bl _, H, I.kept (t' := tk) (LSm.kept_iter hk), rfl, q⟩
end
section
variable {X : Cx} {pins : List (Addr × Obj)} {σ : St} {H : Hp} {s : Shared}
end
end L2
namespace L2
open PySem PySem.Spec PyProof.Rows
end L2
namespace L2
open PySem PySem.Spec PyProof.Rows
section
variable {X : Cx} {a : Expr} {ta : TE} {K : PySem.W.Frag}
end
end L2
namespace L2
end L2
namespace L2
open PySem PySem.Spec PyProof.Rows
section
variable {X : Cx}
end
end L2
namespace L2
open PySem PySem.Spec PyProof.Rows
def CX1 (P : Program) (w : World) : CXT := fun outer H s E e s' => ∃ (a : Addr) (cls a0 : Value) (H' : Hp) (B : Heap), e = .ref a /\ s'.os = s.os /\ AllBare s'.gens /\ Heap.FlyingW B outer a cls a0 s'.heap /\ HOk P w H' s'.heap /\ Un (frs outer) [] H H' s.heap s'.heap /\
  (∀ b o, s.heap.get? b = some o -> H b = none -> b ∉ frs outer -> B.get? b = some o) /\ (∀ b u, H' b = some u -> ∃ o, B.get? b = some o) /\ (∀ b o, s.heap.get? b = some o -> b ∉ frs outer -> ∃ o', B.get? b = some o') /\ E cls none H'
theorem ObjOk.there {P : Program} {w : World} {H : Hp} {h : Heap} {a : Addr} {o : HO} (x : ObjOk P w H h a o) : ∃ ob, h.get? a = some ob := by
  induction o with
  | lst xs => obtain ⟨_, _, _, _, e⟩ := x; exact ⟨_, e⟩
  | tup xs => obtain ⟨_, _, _, ob, e, _⟩ := x; exact ⟨ob, e⟩
  | dK kvs => obtain ⟨_, _, _, _, ob, _, _, e, _⟩ := x; exact ⟨ob, e⟩
  | dT kvs => obtain ⟨_, _, _, _, ob, _, _, e, _⟩ := x; exact ⟨ob, e⟩
  | set S n => obtain ⟨ob, _, _, _, e, _⟩ := x; exact ⟨ob, e⟩
  | ins C dx fs => obtain ⟨_, _, _, e, _⟩ := x; exact ⟨_, e⟩
  | own y => exact x
  | xd fs => obtain ⟨_, ⟨ob, _, _, e, _⟩, _⟩ := x; exact ⟨ob, e⟩
  | rng lo hi => obtain ⟨_, _, _, e⟩ := x; exact ⟨_, e⟩
  | frz ob u ih => exact ⟨ob, x.1⟩
  | tbl ps => exact ⟨_, x⟩
  | met f y => exact ⟨_, x⟩
  | ext φ => exact x.2.1
theorem HOk.inB {P : Program} {w : World} {H : Hp} {h h' B : Heap} (ok : HOk P w H h) (hB : B.StaysIn h) (hB' : B.StaysIn h') (tr : ∀ b u, H b = some u -> ∃ o, B.get? b = some o) : HOk P w H h' := fun a o e =>
  (ok a o e).stay (fun b u hb q => by
    have hb' : ∃ o, B.get? b = some o := by
      rcases hb with z | z
      · rw [z]
        exact tr a o e
      · exact tr b _ z
    obtain ⟨o', q'⟩ := hb'
    have := hB b o' q'
    rw [q] at this
    cases this
    exact hB' b u q') (fun _ q => q) fun _ _ q => q
section
variable {P : Program} {w : World} {K : PySem.W.Frag} {mg : Str -> Option Value} {base : Heap} {N : List Str} {qual : Str} {scope : Scope} {f : Addr} {cd : Value} {A : Around} {outer : List Env} {s₀ : Shared} {H₀ : Hp} {E : XK}
  {pins : List (Addr × Obj)} {σ : St} {H : Hp} {s : Shared}
theorem zk2 {h' : Heap} {e : Addr} {cls : Value} {vs : List Value} (I : Inv (cxOf (CX1 P w) P w K mg base N qual scope f cd A outer s₀ H₀ E) pins σ H s) (hx : Heap.MadeExcOf s.heap h' e cls vs) (hE : E cls none H) :
    (cxOf (CX1 P w) P w K mg base N qual scope f cd A outer s₀ H₀ E).xe (.ref e) { s with heap := h' } := by
  have stk : s.heap.FunFrames base (envOfC qual scope s₀.heap.objs.size f cd :: outer) := I.stack
  have hst : ∀ b, b ∈ frs (envOfC qual scope s₀.heap.objs.size f cd :: outer) -> b = s₀.heap.objs.size \/ b ∈ frs outer := fun b hb => by
    have hb' : b ∈ s₀.heap.objs.size :: frs outer := hb
    exact List.mem_cons.mp hb'
  have inB : ∀ b o, s.heap.get? b = some o -> b ∉ frs (envOfC qual scope s₀.heap.objs.size f cd :: outer) -> (PySem.W.hideAll s.heap (frs (envOfC qual scope s₀.heap.objs.size f cd :: outer))).get? b = some o := fun b o q n => PySem.W.hideAll_get _ q n
  have hB : (PySem.W.hideAll s.heap (frs (envOfC qual scope s₀.heap.objs.size f cd :: outer))).StaysIn s.heap := fun b o q => PySem.W.of_hideAll _ q
  have bse : Un (frs outer) [] H₀ H s₀.heap s.heap := I.base
  have lt : ∀ b o, s₀.heap.get? b = some o -> b ≠ s₀.heap.objs.size := fun b o q => Nat.ne_of_lt (Heap.lt_size q)
  have tr : ∀ b u, H b = some u -> ∃ o, (PySem.W.hideAll s.heap (frs (envOfC qual scope s₀.heap.objs.size f cd :: outer))).get? b = some o := fun b u q => by
    obtain ⟨o, ho⟩ := ObjOk.there (I.hok b u q)
    exact ⟨o, inB b o ho fun hb => by
      have := I.stkFree b hb
      rw [q] at this
      cases this⟩
  refine wpAny_leaves_madeW (base := PySem.W.hideAll s.heap (frs (envOfC qual scope s₀.heap.objs.size f cd :: outer))) (h := s.heap) I.ok.frames rfl hB (PySem.W.funFrames_hide stk fun env he a ha => List.mem_filterMap.mpr ⟨env, he, ha⟩) hx fun h'' t fl tu tn up => ?_
  have up' : s.heap.UpToSlots h'' := (Heap.UpToSlots.of_keeps hx.keeps).trans up
  refine ⟨e, cls, _, H, _, rfl, I.os, I.bare, fl, HOk.inB I.hok hB fl.1 tr, ⟨fun b o q n hb _ => ?_, fun b o q n hb _ => ?_, bse.free, fun b o q _ => ?_, bse.tups, bse.frzs, bse.tbls⟩, fun b o q n hb => ?_, tr, fun b o q hb => ?_, hE⟩
  · refine fl.1 b o (inB b o (bse.keep b o q n hb (by simp)) fun z => ?_)
    rcases hst b z with z | z
    · exact lt b o q z
    · exact hb z
  · obtain ⟨sl, q1⟩ := bse.slot b o q n hb (by simp)
    obtain ⟨_, o', ho', hd⟩ := Heap.FunFrames.mem stk (show b ∈ List.filterMap (fun (z : Env) => z.frame) _ from List.mem_cons_of_mem _ hb)
    obtain ⟨sl', q2⟩ := up' b _ q1 (by rw [ho'] at q1; cases q1; exact hd)
    exact ⟨sl', q2⟩
  · obtain ⟨o', q1⟩ := bse.there b o q (by simp)
    by_cases hb : b ∈ frs (envOfC qual scope s₀.heap.objs.size f cd :: outer)
    · obtain ⟨_, o2, ho', hd⟩ := Heap.FunFrames.mem stk hb
      obtain ⟨sl', q2⟩ := up' b _ ho' hd
      exact ⟨_, q2⟩
    · exact ⟨o', fl.1 b o' (inB b o' q1 hb)⟩
  · refine inB b o (bse.keep b o q n hb (by simp)) fun z => ?_
    rcases hst b z with z | z
    · exact lt b o q z
    · exact hb z
  · obtain ⟨o', q1⟩ := bse.there b o q (by simp)
    refine ⟨o', inB b o' q1 fun z => ?_⟩
    rcases hst b z with z | z
    · exact lt b o q z
    · exact hb z
theorem pass1 : Passes (CX1 P w) (cxOf (CX1 P w) P w K mg base N qual scope f cd A outer s₀ H₀ E) E := by
  intro pins σ H s e s' I h
  obtain ⟨a, cls, a0, H', B, rfl, os, bare, fl, hok, un, hB, tr, hT, hE⟩ := h
  have bse : Un (frs outer) [] H₀ H s₀.heap s.heap := I.base
  have lt : ∀ b o, s₀.heap.get? b = some o -> b ≠ s₀.heap.objs.size := fun b o q => Nat.ne_of_lt (Heap.lt_size q)
  have hst : ∀ b, b ∈ frs (envOfC qual scope s₀.heap.objs.size f cd :: outer) -> b = s₀.heap.objs.size \/ b ∈ frs outer := fun b hb => by
    have hb' : b ∈ s₀.heap.objs.size :: frs outer := hb
    exact List.mem_cons.mp hb'
  have un' : Un (frs (envOfC qual scope s₀.heap.objs.size f cd :: outer)) [] H H' s.heap s'.heap := un
  have kB : ∀ b o, s₀.heap.get? b = some o -> H₀ b = none -> b ∉ frs outer -> B.get? b = some o := fun b o q n hb => hB b o (bse.keep b o q n hb (by simp)) (bse.free b o q n (by simp)) fun z => by
    rcases hst b z with z | z
    · exact lt b o q z
    · exact hb z
  have kT : ∀ b o, s₀.heap.get? b = some o -> b ∉ frs outer -> ∃ o', B.get? b = some o' := fun b o q hb => by
    obtain ⟨o', q1⟩ := bse.there b o q (by simp)
    refine hT b o' q1 fun z => ?_
    rcases hst b z with z | z
    · exact lt b o q z
    · exact hb z
  refine wpAny_leaves_onW I.ok.frames rfl fl fun h'' fl' up => ?_
  refine ⟨a, cls, a0, H', B, rfl, os.trans I.os, bare, fl', HOk.inB hok fl.1 fl'.1 tr, ⟨fun b o q n hb _ => fl'.1 b o (kB b o q n hb), fun b o q n hb _ => ?_, fun b o q n _ => ?_, fun b o q _ => ?_, fun b xs q => un'.tups b xs (bse.tups b xs q), fun b o u q => un'.frzs b o u (bse.frzs b o u q), fun b ps q => ?_⟩, kB, tr, kT, hE⟩
  · obtain ⟨sl, q1⟩ := bse.slot b o q n hb (by simp)
    have n1 := bse.free b o q n (by simp)
    obtain ⟨sl1, q2⟩ := un'.slot b _ q1 n1 (List.mem_cons_of_mem _ hb) (by simp)
    obtain ⟨_, o', ho', hd⟩ := Heap.FunFrames.mem fl.2.2.1 (show b ∈ List.filterMap (fun (z : Env) => z.frame) _ from List.mem_cons_of_mem _ hb)
    obtain ⟨sl', q3⟩ := up b _ q2 (by rw [ho'] at q2; cases q2; exact hd)
    exact ⟨sl', q3⟩
  · obtain ⟨o', q1⟩ := bse.there b o q (by simp)
    exact un'.free b o' q1 (bse.free b o q n (by simp)) (by simp)
  · obtain ⟨o', q1⟩ := bse.there b o q (by simp)
    obtain ⟨o2, q2⟩ := un'.there b o' q1 (by simp)
    by_cases hb : b ∈ frs outer
    · obtain ⟨_, o3, ho3, hd⟩ := Heap.FunFrames.mem fl.2.2.1 (show b ∈ List.filterMap (fun (z : Env) => z.frame) _ from List.mem_cons_of_mem _ hb)
      obtain ⟨sl', q3⟩ := up b _ ho3 hd
      exact ⟨_, q3⟩
    · obtain ⟨o4, q4⟩ := kT b o q hb
      exact ⟨o4, fl'.1 b o4 q4⟩
  · obtain ⟨m1, e1⟩ := bse.tbls b ps q
    obtain ⟨m2, e2⟩ := un'.tbls b _ e1
    exact ⟨m1 ++ m2, by rw [e2, Array.append_assoc]⟩
end
end L2
namespace L2
open PySem PySem.Spec PyProof.Rows
section
variable {X : Cx} {e : Expr} {es : List Expr} {te : TE}
end
section
variable {X : Cx} {e : Expr} {es : List Expr} {t : TA} {E : XK}
end
end L2
namespace L2
open PySem PySem.Spec PyProof.Rows
section
variable {pg : Program} {wd : World} {A : Around} {E : Value -> Shared -> Prop} {h : Heap} {g : Array GenState} {d : Drawn} {t : Nat} {os : OsState} {a C : Addr} {o : Obj} {K : PySem.W.Frag}
end
end L2
namespace L2
open PySem PySem.Spec PyProof.Rows
def ExcO (a C : Addr) : Heap -> Prop := fun h => ∃ o, h.get? a = some o /\ o.cls = .ref C
section
variable {X : Cx}
end
end L2
namespace L2
open PySem PySem.Spec PyProof.Rows
section
variable {X : Cx} {pins : List (Addr × Obj)} {σ : St} {H : Hp} {s : Shared}
end
section
variable {X : Cx} {pins : List (Addr × Obj)} {σ : St} {H : Hp} {s : Shared}
end
section
variable {X : Cx} {body suite : List Stmt} {b₀ : Stmt} {x n : Str} {np hpos pos : Pos} {tb : XK -> TS} {ts : TS} {W : Addr} {i : Nat}
end
end L2
namespace L2
open PySem PySem.Spec PyProof.Rows
section
variable {P : Program} {w : World} {K : PySem.W.Frag} {mg : Str -> Option Value} {base : Heap}
end
section
variable {X : Cx} {k : Nat} {f : Addr} {fd : FuncData} {ps : List Str} {sp : Sp} {x : Str} {p pos : Pos} {e : Expr} {es : List Expr} {t : TA}
end
end L2
namespace L2
open PySem PySem.Spec PyProof.Rows
section
variable {P : Program} {w : World} {K : PySem.W.Frag} {mg : Str -> Option Value} {base : Heap}
theorem Fun.okX {x qual : Str} {st : Stmt} {f : Addr} {fd : FuncData} {N ps : List Str} {k : Nat} {sp : Sp} (F : Fun K x qual st f fd) (S : FnScope N ps (defScope st)) (len : ∀ vs H Q E, sp vs H Q E -> vs.length = ps.length)
    (body : ∀ (cdv : Value) (A : Around) (outer : List Env) (s : Shared) (H : Hp) (vs : List V) (Q : VK) (E : XK), Room k (A.deeper (envOfC qual (defScope st) s.heap.objs.size f cdv)) -> sp vs H Q E ->
      ∃ t, PSs (cxOf (CX1 P w) P w K mg base N qual (defScope st) f cdv A outer s H E) (defBody st) t /\ t { nx := fun _ H' => Q .non H', rt := Q } (start N vs) H) : FnOk P w K mg base (CX1 P w) (k + 1) f fd ps sp := by
  obtain ⟨oc, od, kV, doc, pm, an, cdv, ct, osl, rfl, lk, hcd⟩ := F.ex
  exact zp2 lk hcd S len fun A outer s H vs Q E hr hsp => body cdv A outer s H vs Q E hr hsp
theorem own1 {N : List Str} {qual : Str} {scope : Scope} {f : Addr} {cd : Value} {A : Around} {outer : List Env} {s : Shared} {H : Hp} {E : XK} {CX : CXT} :
    PassesOwn (model (cxOf CX P w K mg base N qual scope f cd A outer s H E).prog (cxOf CX P w K mg base N qual scope f cd A outer s H E).w) (cxOf CX P w K mg base N qual scope f cd A outer s H E).A (cxOf CX P w K mg base N qual scope f cd A outer s H E).env (cxOf CX P w K mg base N qual scope f cd A outer s H E).xe :=
  PassesOwn.leaving
end
end L2
namespace L2
open PySem PySem.Spec PyProof.Rows
section
variable {X : Cx}
end
end L2
namespace IC
open PySem
inductive PV where
  | non | bl (b : Bool) | int (i : Int) | str (x : Str) | tp (k : Bool) (xs : List PV) | lst (xs : List PV) | loc (n : Nat) | exn (c : Nat) | scr (xs : List PV)
deriving Inhabited
abbrev PV.tup (xs : List PV) : PV := .tp false xs
mutual
def noLoc : PV -> Bool
  | .loc _ => false
  | .exn _ => false
  | .tp _ xs => noLocs xs
  | .lst xs => noLocs xs
  | .scr xs => noLocs xs
  | _ => true
def noLocs : List PV -> Bool
  | [] => true
  | x :: xs => noLoc x && noLocs xs
end
mutual
def shd (n : Nat) : PV -> Bool
  | .non => true
  | .bl _ => true
  | .int _ => true
  | .str x => x.cps.all (· < 0x110000)
  | .tp _ xs => decide (0 < n) && shds (n - 1) xs
  | .lst xs => decide (0 < n) && shds (n - 1) xs
  | _ => false
def shds (n : Nat) : List PV -> Bool
  | [] => true
  | x :: xs => shd n x && shds n xs
end
abbrev shp (v : PV) : Bool := shd 60 v
def flat : PV -> Bool
  | .non => true
  | .bl _ => true
  | .int _ => true
  | .str _ => true
  | _ => false
def bi (b : Bool) : Int := if b then 1 else 0
mutual
def peq : PV -> PV -> Bool
  | .non, .non => true
  | .bl a, .bl b => a == b
  | .bl a, .int j => bi a == j
  | .int i, .bl b => i == bi b
  | .int i, .int j => i == j
  | .str x, .str y => x == y
  | .tp _ xs, .tp _ ys => peqs xs ys
  | .lst xs, .lst ys => peqs xs ys
  | _, _ => false
def peqs : List PV -> List PV -> Bool
  | [], [] => true
  | x :: xs, y :: ys => peq x y && peqs xs ys
  | _, _ => false
end
inductive Ob where
  | lst (xs : List PV) | dct (t : Bool) (kvs : List (PV × PV)) | dead
abbrev Env := List (Option PV)
abbrev Store := List Ob
inductive R (α : Type) where
  | ok (a : α) (st : Store) | exc (c : Nat) (st : Store) | bad
def R.bind {α β : Type} (r : R α) (k : α -> Store -> R β) : R β :=
  match r with
  | .ok a st => k a st
  | .exc c st => .exc c st
  | .bad => .bad
inductive BOp where
  | add | sub | mul | fdiv | mod | pow | shl | shr | band | bor | bxor
inductive COp where
  | eq | ne | lt | le | gt | ge | is | isnot | isin | notin
inductive Ty where
  | int | bool | str | tuple | list | cls (c : Nat) | val
inductive Blt where
  | len | int | abs | min | max | tuple | list | all | sum | dict
inductive Mth where
  | append | extend | get | bits | upper
inductive Tg where
  | n (i : Nat) | t (l : List Nat)
mutual
inductive Ce where
  | cst (v : PV)
  | var (i : Nat)
  | bin (o : BOp) (a b : Ce)
  | neg (a : Ce)
  | not (a : Ce)
  | and (a b : Ce)
  | or (a b : Ce)
  | cmp (o : COp) (a b : Ce)
  | chain (o p : COp) (a b c : Ce)
  | ite (c a b : Ce)
  | tup (es : Ces)
  | lst (es : Ces)
  | newl (es : Ces)
  | newd (kvs : List (Str × Int))
  | dict0 (t : Bool)
  | idx (a i : Ce)
  | slc (a : Ce) (lo hi : Ce)
  | call (f : Nat) (args : Ces)
  | blt (b : Blt) (args : Ces)
  | mth (m : Mth) (o : Ce) (args : Ces)
  | isi (a : Ce) (t : List Ty)
  | comp (sl : List (Option Nat)) (tg : Tg) (it : Cit) (c : Ce) (e : Ce)
  | frz (a : Ce)
  | nope
  | fst (e : Ces)
inductive Ces where
  | nil
  | cons (e : Ce) (es : Ces)
inductive Cit where
  | seq (e : Ce)
  | range1 (a : Ce)
  | range2 (a b : Ce)
  | rangeD (a b : Ce)
  | enum (e : Ce)
  | zip (a b : Ce)
end
mutual
inductive Cs where
  | expr (e : Ce)
  | asg (t : Tg) (e : Ce)
  | six (o i e : Ce)
  | dput (o i e : Ce)
  | aug (i : Nat) (o : BOp) (e : Ce)
  | ret (e : Ce)
  | ite (c : Ce) (a b : Css)
  | for (t : Tg) (it : Cit) (b : Css)
  | while (c : Ce) (b : Css)
  | nope
  | brk
  | cnt
  | pass
  | raise (c : Nat) (e : Ce)
  | try (b : Css) (c : Nat) (i : Nat) (h : Css)
inductive Css where
  | nil
  | cons (s : Cs) (ss : Css)
end
def CMulB (i j : Int) : Bool := (decide (i.natAbs < 18446744073709551616)) || (decide (j.natAbs < 18446744073709551616))
def binI (o : BOp) (i j : Int) : Option PV :=
  match o with
  | .add => some (.int (i + j))
  | .sub => some (.int (i - j))
  | .mul => if CMulB i j then some (.int (i * j)) else none
  | .fdiv => if 0 < j /\ j < 10000000000000000000000000000000000000000000000000000000000000000000000 then some (.int (i / j)) else none
  | .mod => if 0 < j then some (.int (i % j)) else none
  | .pow => if 0 <= j /\ j <= 1000000 /\ i.natAbs < 18446744073709551616 then some (.int (i ^ j.toNat)) else none
  | .shl => if 0 <= j /\ j <= 1000000 /\ i.natAbs < 18446744073709551616 then some (.int (i * 2 ^ j.toNat)) else none
  | .shr => if 0 <= j then some (.int (i / 2 ^ j.toNat)) else none
  | .band => some (.int (Builtin.bitAnd i j))
  | .bor => some (.int (Builtin.bitOr i j))
  | .bxor => some (.int (Builtin.bitXor i j))
def sizeMax : Nat := 16777216
def binV (o : BOp) (x y : PV) : Option PV :=
  match x, y with
  | .int i, .int j => binI o i j
  | .int i, .bl b => match o with
    | .add => some (.int (i + bi b))
    | _ => none
  | .str a, .str b => match o with
    | .add => if a.length + b.length <= sizeMax then some (.str (a ++ b)) else none
    | _ => none
  | .tp _ a, .tp _ b => match o with
    | .add => if a.length + b.length <= sizeMax /\ a.isEmpty = false /\ b.isEmpty = false then some (.tup (a ++ b)) else none
    | _ => none
  | .lst a, .lst b => match o with
    | .add => if a.length + b.length <= sizeMax then some (.lst (a ++ b)) else none
    | _ => none
  | _, _ => none
def augV (o : BOp) (x y : PV) : Option PV :=
  match x, y with
  | .int i, .int j => binI o i j
  | _, _ => none
def isNon : PV -> Bool
  | .non => true
  | _ => false
def inL (x : PV) : List PV -> Bool
  | [] => false
  | y :: ys => peq y x || inL x ys
def inS (a b : Str) : Bool := (List.range (b.length + 1)).any fun i => decide (i + a.length <= b.length) && (b.cps.extract i (i + a.length) == a.cps)
def cmpI (o : COp) (i j : Int) : Option PV :=
  match o with
  | .lt => some (.bl (decide (i < j)))
  | .le => some (.bl (decide (i <= j)))
  | .gt => some (.bl (decide (j < i)))
  | .ge => some (.bl (decide (j <= i)))
  | _ => none
def cmpV (o : COp) (x y : PV) : Option PV :=
  match o with
  | .eq => if shp x && shp y then some (.bl (peq x y)) else none
  | .ne => if shp x && shp y then some (.bl (!peq x y)) else none
  | .is => match y with
    | .non => some (.bl (isNon x))
    | _ => none
  | .isnot => match y with
    | .non => some (.bl (!isNon x))
    | _ => none
  | .isin => match x, y with
    | .str a, .str b => some (.bl (inS a b))
    | x, .tp _ l => if flat x && l.all flat then some (.bl (inL x l)) else none
    | x, .lst l => if flat x && l.all flat then some (.bl (inL x l)) else none
    | _, _ => none
  | .notin => match x, y with
    | .str a, .str b => some (.bl (!inS a b))
    | x, .tp _ l => if flat x && l.all flat then some (.bl (!inL x l)) else none
    | x, .lst l => if flat x && l.all flat then some (.bl (!inL x l)) else none
    | _, _ => none
  | o => match x, y with
    | .int i, .int j => cmpI o i j
    | _, _ => none
def truV (st : Store) (x : PV) : Option Bool :=
  match x with
  | .non => some false
  | .bl b => some b
  | .int i => some (i != 0)
  | .str y => if y.length <= sizeMax then some ((y.length : Int) != 0) else none
  | .tp _ xs => some (!xs.isEmpty)
  | .lst xs => some (!xs.isEmpty)
  | .loc n => match st[n]? with
    | some (.lst xs) => some (!xs.isEmpty)
    | _ => none
  | _ => none
def ixI (n : Nat) (i : Int) : Option Nat := if 0 <= i then (if i < n then some i.toNat else none) else if -(n : Int) <= i then some (i + n).toNat else none
def at? {α : Type} (xs : List α) (i : Int) : Option α := (ixI xs.length i).bind fun j => xs[j]?
def look (k : PV) : List (PV × PV) -> Option PV
  | [] => none
  | (a, b) :: r => if peq a k then some b else look k r
def put (k v : PV) (kvs : List (PV × PV)) : List (PV × PV) :=
  if (kvs.any fun p => peq p.1 k) = true then kvs.map (fun p => if peq p.1 k = true then (p.1, v) else p) else kvs ++ [(k, v)]
def isKey0 : PV -> Bool
  | .int _ => true
  | .str _ => true
  | _ => false
def isKey (t : Bool) (k : PV) : Bool :=
  match t with
  | false => isKey0 k
  | true => match k with
    | .tp false xs => xs.all isKey0
    | _ => false
def idxI {α : Type} (xs : List α) (i : PV) : Option α :=
  match i with
  | .int k => at? xs k
  | _ => none
def idxV (st : Store) (x i : PV) : Option PV :=
  match x with
  | .tp _ xs => idxI xs i
  | .lst xs => idxI xs i
  | .str s => if s.length <= sizeMax then (idxI s.cps.toList i).map fun c => .str ⟨#[c]⟩ else none
  | .loc n => match st[n]? with
    | some (.lst xs) => idxI xs i
    | _ => none
  | _ => none
def clampI (n : Nat) (v : Int) : Nat := if v < 0 then (v + (n : Int)).toNat else min v.toNat n
def loOf (n : Nat) (lo : Option Int) : Nat :=
  match lo with
  | none => 0
  | some i => clampI n i
def hiOf (n : Nat) (hi : Option Int) : Nat :=
  match hi with
  | none => n
  | some i => clampI n i
def cut {α : Type} (xs : List α) (lo hi : Option Int) : List α := (xs.drop (loOf xs.length lo)).take (hiOf xs.length hi - loOf xs.length lo)
def optI : PV -> Option (Option Int)
  | .non => some none
  | .int i => some (some i)
  | _ => none
def slcO (x : PV) (a b : Option Int) : Option PV :=
  match x with
  | .tp _ xs => if loOf xs.length a = 0 /\ hiOf xs.length b = xs.length then none else some (.tup (cut xs a b))
  | .lst xs => some (.lst (cut xs a b))
  | .scr xs => some (.lst (cut xs a b))
  | _ => none
def slcV (x : PV) (a : Option Int) (hi : PV) : Option PV :=
  match optI hi with
  | some b => slcO x a b
  | none => none
def isTy (x : PV) (t : Ty) : Bool :=
  match x, t with
  | .int _, .int => true
  | .bl _, .int => true
  | .bl _, .bool => true
  | .str _, .str => true
  | .tp _ _, .tuple => true
  | .lst _, .list => true
  | .exn c, .cls d => c == d
  | .exn _, .val => true
  | _, _ => false
def isBl : Ty -> Bool
  | .cls _ => false
  | .val => false
  | _ => true
def isiV (x : PV) (ts : List Ty) : Option PV :=
  match x with
  | .loc _ => none
  | .scr _ => none
  | .exn c => if ts.all isBl then none else some (.bl (ts.any (isTy (.exn c))))
  | x => match ts with
    | [t] => if isBl t then some (.bl (isTy x t)) else none
    | _ => none
def allB : List PV -> Option Bool
  | [] => some true
  | .bl b :: r => match allB r with
    | some c => some (b && c)
    | none => none
  | _ :: _ => none
def sumI : List PV -> Option Int
  | [] => some 0
  | .int i :: r => match sumI r with
    | some c => some (i + c)
    | none => none
  | _ :: _ => none
def maxI : List PV -> Option Int
  | [] => none
  | [.int i] => some i
  | .int i :: r => match maxI r with
    | some c => some (if i < c then c else i)
    | none => none
  | _ :: _ => none
def seqOf (st : Store) : PV -> Option (List PV)
  | .tp _ xs => some xs
  | .lst xs => some xs
  | .loc n => match st[n]? with
    | some (.lst xs) => some xs
    | _ => none
  | _ => none
def lstOf (st : Store) : PV -> Option (List PV)
  | .lst xs => some xs
  | .loc n => match st[n]? with
    | some (.lst xs) => some xs
    | _ => none
  | _ => none
def lenV (st : Store) (x : PV) : Option PV :=
  match x with
  | .str s => if s.length <= sizeMax then some (.int s.length) else none
  | x => (seqOf st x).map fun xs => .int xs.length
def intV (x : PV) : Option PV :=
  match x with
  | .int i => some (.int i)
  | .bl k => some (.int (bi k))
  | _ => none
def absV1 (x : PV) : Option PV :=
  match x with
  | .int i => some (.int (if i < 0 then -i else i))
  | _ => none
def minV (x y : PV) : Option PV :=
  match x, y with
  | .int i, .int j => some (.int (if j < i then j else i))
  | _, _ => none
def maxV (x y : PV) : Option PV :=
  match x, y with
  | .int i, .int j => some (.int (if i < j then j else i))
  | _, _ => none
def tupV (st : Store) (x : PV) : Option PV :=
  match x with
  | .tp k xs => some (.tp k xs)
  | x => (lstOf st x).map .tup
def bltV (b : Blt) (st : Store) (vs : List PV) : Option PV :=
  match vs with
  | [x] => match b with
    | .len => lenV st x
    | .int => intV x
    | .abs => absV1 x
    | .max => (lstOf st x).bind fun xs => (maxI xs).map .int
    | .tuple => tupV st x
    | .list => (seqOf st x).map .lst
    | .all => (lstOf st x).bind fun xs => (allB xs).map .bl
    | .sum => (lstOf st x).bind fun xs => (sumI xs).map .int
    | _ => none
  | [x, y] => match b with
    | .min => minV x y
    | .max => maxV x y
    | _ => none
  | _ => none
def dctOf (st : Store) : PV -> Option (Bool × List (PV × PV))
  | .loc n => match st[n]? with
    | some (.dct t xs) => some (t, xs)
    | _ => none
  | _ => none
def mthOk (m : Mth) (st : Store) (x : PV) : Option Bool :=
  match m with
  | .append => (lstOf st x).map fun _ => true
  | .extend => (lstOf st x).map fun _ => true
  | .get => (dctOf st x).map fun _ => true
  | .bits => match x with
    | .int _ => some true
    | _ => none
  | .upper => none
def appV (st : Store) (o v : PV) : R PV :=
  match o with
  | .loc n => match st[n]? with
    | some (.lst xs) => if xs.length < 1000000 then .ok .non (st.set n (.lst (xs ++ [v]))) else .bad
    | _ => .bad
  | _ => .bad
def extV (st : Store) (o v : PV) : R PV :=
  match o with
  | .loc n => match st[n]? with
    | some (.lst xs) => match v with
      | .lst ys => if xs.length + ys.length <= 1000000 then .ok .non (st.set n (.lst (xs ++ ys))) else .bad
      | _ => .bad
    | _ => .bad
  | _ => .bad
def getV (st : Store) (o k d : PV) : R PV :=
  match dctOf st o with
  | some (t, kvs) => if isKey t k then .ok ((look k kvs).getD d) st else .bad
  | none => .bad
def mthV (m : Mth) (st : Store) (o : PV) (vs : List PV) : R PV :=
  match m, vs with
  | .append, [v] => appV st o v
  | .extend, [v] => extV st o v
  | .get, [k, d] => getV st o k d
  | .bits, [] => match o with
    | .int i => .ok (.int (Builtin.Int.intBits i)) st
    | _ => .bad
  | _, _ => .bad
def toR (o : Option PV) (st : Store) : R PV :=
  match o with
  | some v => .ok v st
  | none => .bad
def bindT (t : Tg) (v : PV) (ρ : Env) : Option Env :=
  match t, v with
  | .n i, v => some (ρ.set i (some v))
  | .t l, .tp _ xs => if l.length = xs.length then some ((l.zip xs).foldl (fun ρ p => ρ.set p.1 (some p.2)) ρ) else none
  | _, _ => none
def pairsUp : Nat -> List PV -> List PV
  | _, [] => []
  | k, x :: xs => .tup [.int k, x] :: pairsUp (k + 1) xs
def zipUp : List PV -> List PV -> List PV
  | x :: xs, y :: ys => .tup [x, y] :: zipUp xs ys
  | _, _ => []
def rangeL : Nat -> Int -> Int -> List PV
  | 0, _, _ => []
  | n + 1, a, d => .int a :: rangeL n (a + d) d
def rng1 (x : PV) : Option (List PV) :=
  match x with
  | .int j => if j.natAbs < 1000000000 then some (rangeL j.toNat 0 1) else none
  | _ => none
def rng2 (x y : PV) : Option (List PV) :=
  match x, y with
  | .int i, .int j => if i.natAbs < 1000000000 /\ j.natAbs < 1000000000 then some (rangeL (j - i).toNat i 1) else none
  | _, _ => none
def rngD (x y : PV) : Option (List PV) :=
  match x, y with
  | .int i, .int j => if i.natAbs < 1000000000 /\ j.natAbs < 1000000000 then some (rangeL (i - j).toNat i (-1)) else none
  | _, _ => none
def toL (o : Option (List PV)) (st : Store) : R (List PV) :=
  match o with
  | some v => .ok v st
  | none => .bad
def frzV (v : PV) (st : Store) : R PV :=
  match v with
  | .loc n => match st[n]? with
    | some (.lst xs) => .ok (.lst xs) (st.set n .dead)
    | _ => .bad
  | v => .ok v st
inductive Fl where
  | nx (ρ : Env) (st : Store) | rt (v : PV) (st : Store) | bk (ρ : Env) (st : Store) | ct (ρ : Env) (st : Store) | exc (c : Nat) (ρ : Env) (st : Store) | bad
def onBl {α : Type} (x : PV) (k : Bool -> R α) : R α :=
  match x with
  | .bl b => k b
  | _ => .bad
def onO {α : Type} (o : Option Bool) (k : Bool -> R α) : R α :=
  match o with
  | some b => k b
  | none => .bad
def onF (o : Option Bool) (k : Bool -> Fl) : Fl :=
  match o with
  | some b => k b
  | none => .bad
def onP {α : Type} (o : Option (Option Int)) (k : Option Int -> R α) : R α :=
  match o with
  | some b => k b
  | none => .bad
def blO (o : Option PV) : Option Bool :=
  match o with
  | some (.bl b) => some b
  | _ => none
def consO (o : Option PV) (ys : List PV) : List PV :=
  match o with
  | some y => y :: ys
  | none => ys
def compL (one : PV -> Store -> R (Option PV)) : List PV -> Store -> R (List PV)
  | [], st => .ok [] st
  | x :: xs, st => (one x st).bind fun o st1 => (compL one xs st1).bind fun ys st2 => .ok (consO o ys) st2
def lstR (r : R (List PV)) : R PV :=
  match r with
  | .ok ys st => if ys.length <= 1000000 then .ok (.lst ys) st else .bad
  | _ => .bad
mutual
def ev (call : Nat -> List PV -> Store -> R PV) (ρ : Env) (st : Store) : Ce -> R PV
  | .cst v => .ok v st
  | .var i => match ρ[i]? with
    | some (some v) => .ok v st
    | _ => .bad
  | .bin o a b => (ev call ρ st a).bind fun x st1 => (ev call ρ st1 b).bind fun y st2 => toR (binV o x y) st2
  | .neg a => (ev call ρ st a).bind fun x st1 => match x with
    | .int i => .ok (.int (-i)) st1
    | _ => .bad
  | .not a => (ev call ρ st a).bind fun x st1 => onBl x fun k => .ok (.bl (!k)) st1
  | .and a b => (ev call ρ st a).bind fun x st1 => onBl x fun k => cond k (ev call ρ st1 b) (.ok (.bl false) st1)
  | .or a b => (ev call ρ st a).bind fun x st1 => onBl x fun k => cond k (.ok (.bl true) st1) (ev call ρ st1 b)
  | .cmp o a b => (ev call ρ st a).bind fun x st1 => (ev call ρ st1 b).bind fun y st2 => toR (cmpV o x y) st2
  | .chain o p a b c => (ev call ρ st a).bind fun x st1 => (ev call ρ st1 b).bind fun y st2 => onO (blO (cmpV o x y)) fun k => cond k ((ev call ρ st2 c).bind fun z st3 => toR (cmpV p y z) st3) (.ok (.bl false) st2)
  | .ite c a b => (ev call ρ st c).bind fun x st1 => onO (truV st1 x) fun k => cond k (ev call ρ st1 a) (ev call ρ st1 b)
  | .tup es => (evs call ρ st es).bind fun vs st1 => if vs.length <= sizeMax then .ok (.tup vs) st1 else .bad
  | .lst es => (evs call ρ st es).bind fun vs st1 => if vs.length <= sizeMax then .ok (.lst vs) st1 else .bad
  | .newl es => (evs call ρ st es).bind fun vs st1 => if vs.length <= sizeMax then .ok (.loc st1.length) (st1 ++ [.lst vs]) else .bad
  | .newd kvs => if kvs.length <= 15 then .ok (.loc st.length) (st ++ [.dct false (kvs.foldl (fun acc kv => put (.str kv.1) (.int kv.2) acc) [])]) else .bad
  | .dict0 t => .ok (.loc st.length) (st ++ [.dct t []])
  | .idx a i => (ev call ρ st a).bind fun x st1 => (ev call ρ st1 i).bind fun y st2 => toR (idxV st2 x y) st2
  | .slc a l h => (ev call ρ st a).bind fun x st1 => (ev call ρ st1 l).bind fun y st2 => onP (optI y) fun o => (ev call ρ st2 h).bind fun z st3 => toR (slcV x o z) st3
  | .call f es => (evs call ρ st es).bind fun vs st1 => call f vs st1
  | .blt b es => (evs call ρ st es).bind fun vs st1 => toR (bltV b st1 vs) st1
  | .mth m o es => (ev call ρ st o).bind fun x st1 => onO (mthOk m st1 x) fun _ => (evs call ρ st1 es).bind fun vs st2 => mthV m st2 x vs
  | .isi a ts => (ev call ρ st a).bind fun x st1 => toR (isiV x ts) st1
  | .comp sl tg it c e => (evi call ρ st it).bind fun xs st1 =>
    let ρ0 : Env := sl.map fun o => o.bind fun j => (ρ[j]?).join
    lstR (compL (fun x st2 => match bindT tg x ρ0 with
      | none => .bad
      | some ρ1 => (ev call ρ1 st2 c).bind fun b st3 => onO (truV st3 b) fun k => cond k ((ev call ρ1 st3 e).bind fun y st4 => .ok (some y) st4) (.ok none st3)) xs st1)
  | .nope => .bad
  | .frz a => (ev call ρ st a).bind fun x st1 => frzV x st1
  | .fst es => (evs call ρ st es).bind fun _ st1 => .ok (.str ⟨#[]⟩) st1
def evs (call : Nat -> List PV -> Store -> R PV) (ρ : Env) (st : Store) : Ces -> R (List PV)
  | .nil => .ok [] st
  | .cons e es => (ev call ρ st e).bind fun v st1 => (evs call ρ st1 es).bind fun vs st2 => .ok (v :: vs) st2
def evi (call : Nat -> List PV -> Store -> R PV) (ρ : Env) (st : Store) : Cit -> R (List PV)
  | .seq e => (ev call ρ st e).bind fun v st1 => match v with
    | .tp _ xs => .ok xs st1
    | .lst xs => .ok xs st1
    | _ => .bad
  | .range1 a => (ev call ρ st a).bind fun x st1 => toL (rng1 x) st1
  | .range2 a b => (ev call ρ st a).bind fun x st1 => (ev call ρ st1 b).bind fun y st2 => toL (rng2 x y) st2
  | .rangeD a b => (ev call ρ st a).bind fun x st1 => (ev call ρ st1 b).bind fun y st2 => toL (rngD x y) st2
  | .enum e => (ev call ρ st e).bind fun v st1 => match v with
    | .tp _ xs => .ok (pairsUp 0 xs) st1
    | _ => .bad
  | .zip a b => (ev call ρ st a).bind fun x st1 => (ev call ρ st1 b).bind fun y st2 => match x, y with
    | .tp _ xs, .tp _ ys => .ok (zipUp xs ys) st2
    | .lst xs, .tp _ ys => .ok (zipUp xs ys) st2
    | .tp _ xs, .lst ys => .ok (zipUp xs ys) st2
    | .lst xs, .lst ys => .ok (zipUp xs ys) st2
    | _, _ => .bad
end
def R.fl {α : Type} (r : R α) (ρ : Env) (k : α -> Store -> Fl) : Fl :=
  match r with
  | .ok a st => k a st
  | .exc c st => .exc c ρ st
  | .bad => .bad
def againF (f : Fl) (k : Env -> Store -> Fl) : Fl :=
  match f with
  | .nx ρ st => k ρ st
  | .ct ρ st => k ρ st
  | .bk ρ st => .nx ρ st
  | f => f
def forL (t : Tg) (body : Env -> Store -> Fl) : List PV -> Env -> Store -> Fl
  | [], ρ, st => .nx ρ st
  | x :: xs, ρ, st => match bindT t x ρ with
    | none => .bad
    | some ρ1 => againF (body ρ1 st) fun ρ2 st2 => forL t body xs ρ2 st2
def whileL (test : Env -> Store -> R PV) (body : Env -> Store -> Fl) : Nat -> Env -> Store -> Fl
  | 0, _, _ => .bad
  | n + 1, ρ, st => (test ρ st).fl ρ fun x st1 => onF (truV st1 x) fun k => cond k (againF (body ρ st1) fun ρ2 st2 => whileL test body n ρ2 st2) (.nx ρ st1)
def sixV (st : Store) (o i v : PV) : Option Store :=
  match o with
  | .loc n => match st[n]? with
    | some (.lst xs) => match i with
      | .int k => match ixI xs.length k with
        | some j => some (st.set n (.lst (xs.set j v)))
        | none => none
      | _ => none
    | _ => none
  | _ => none
def dputV (st : Store) (o i v : PV) : Option Store :=
  match o with
  | .loc n => match st[n]? with
    | some (.dct t kvs) => if isKey t i /\ kvs.length < 1000000 then some (st.set n (.dct t (put i v kvs))) else none
    | _ => none
  | _ => none
mutual
def ex (call : Nat -> List PV -> Store -> R PV) (ρ : Env) (st : Store) : Cs -> Fl
  | .expr e => (ev call ρ st e).fl ρ fun _ st1 => .nx ρ st1
  | .asg t e => (ev call ρ st e).fl ρ fun v st1 => match bindT t v ρ with
    | some ρ1 => .nx ρ1 st1
    | none => .bad
  | .six o i e => (ev call ρ st e).fl ρ fun v st1 => (ev call ρ st1 o).fl ρ fun x st2 => (ev call ρ st2 i).fl ρ fun y st3 => match sixV st3 x y v with
    | some st4 => .nx ρ st4
    | none => .bad
  | .dput o i e => (ev call ρ st e).fl ρ fun v st1 => (ev call ρ st1 o).fl ρ fun x st2 => (ev call ρ st2 i).fl ρ fun y st3 => match dputV st3 x y v with
    | some st4 => .nx ρ st4
    | none => .bad
  | .aug i o e => match ρ[i]? with
    | some (some x) => (ev call ρ st e).fl ρ fun y st1 => match augV o x y with
      | some z => .nx (ρ.set i (some z)) st1
      | none => .bad
    | _ => .bad
  | .ret e => (ev call ρ st e).fl ρ fun v st1 => .rt v st1
  | .ite c a b => (ev call ρ st c).fl ρ fun x st1 => onF (truV st1 x) fun k => cond k (exs call ρ st1 a) (exs call ρ st1 b)
  | .for t it b => (evi call ρ st it).fl ρ fun xs st1 => forL t (fun ρ2 st2 => exs call ρ2 st2 b) xs ρ st1
  | .while c b => whileL (fun ρ2 st2 => ev call ρ2 st2 c) (fun ρ2 st2 => exs call ρ2 st2 b) 100000 ρ st
  | .nope => .bad
  | .brk => .bk ρ st
  | .cnt => .ct ρ st
  | .pass => .nx ρ st
  | .raise c e => (ev call ρ st e).fl ρ fun _ st1 => .exc c ρ st1
  | .try b c i h => match exs call ρ st b with
    | .exc d ρ1 st1 => match exs call (ρ1.set i (some (.exn d))) st1 h with
      | .nx ρ2 st2 => .nx (ρ2.set i none) st2
      | .rt v st2 => .rt v st2
      | _ => .bad
    | f => f
def exs (call : Nat -> List PV -> Store -> R PV) (ρ : Env) (st : Store) : Css -> Fl
  | .nil => .nx ρ st
  | .cons s ss => match ex call ρ st s with
    | .nx ρ1 st1 => exs call ρ1 st1 ss
    | f => f
end
structure Fn where
  np : Nat
  ns : Nat
  pure : Bool
  body : Css
def callT (T : Nat -> Option Fn) : Nat -> Nat -> List PV -> Store -> R PV
  | 0, _, _, _ => .bad
  | k + 1, f, args, st => match T f with
    | none => .bad
    | some fn => if args.length = fn.np then
        if fn.pure then
          if noLocs args then match exs (callT T k) (args.map some ++ List.replicate (fn.ns - fn.np) none) [] fn.body with
            | .rt v _ => if noLoc v then .ok v st else .bad
            | .nx _ _ => .ok .non st
            | .exc c _ _ => .exc c st
            | _ => .bad
          else .bad
        else match exs (callT T k) (args.map some ++ List.replicate (fn.ns - fn.np) none) st fn.body with
          | .rt v st1 => .ok v st1
          | .nx _ st1 => .ok .non st1
          | .exc c _ st1 => .exc c st1
          | _ => .bad
      else .bad
def tailC : List (Sum Ce Int) -> Ces
  | [] => .nil
  | .inl c :: r => .cons c (tailC r)
  | .inr i :: r => .cons (.cst (.int i)) (tailC r)
def appC : Ces -> Ces -> Ces
  | .nil, b => b
  | .cons e r, b => .cons e (appC r b)
end IC
namespace IC
open PySem
def RLe {α : Type} (r q : R α) : Prop := r = .bad \/ r = q
def FLe (f g : Fl) : Prop := f = .bad \/ f = g
abbrev Cl := Nat -> List PV -> Store -> R PV
def CLe (c d : Cl) : Prop := ∀ f a s, RLe (c f a s) (d f a s)
theorem RLe.rfl {α : Type} {r : R α} : RLe r r := .inr (Eq.refl _)
theorem FLe.rfl {f : Fl} : FLe f f := .inr (Eq.refl _)
theorem RLe.bind {α β : Type} {r q : R α} {k l : α -> Store -> R β} (h : RLe r q) (hk : ∀ a s, RLe (k a s) (l a s)) : RLe (r.bind k) (q.bind l) := by
  rcases h with h | h
  · subst h; exact .inl (Eq.refl _)
  · subst h
    cases r with
    | ok a s => exact hk a s
    | exc c s => exact .rfl
    | bad => exact .rfl
theorem RLe.fl {α : Type} {r q : R α} {ρ : Env} {k l : α -> Store -> Fl} (h : RLe r q) (hk : ∀ a s, FLe (k a s) (l a s)) : FLe (r.fl ρ k) (q.fl ρ l) := by
  rcases h with h | h
  · subst h; exact .inl (Eq.refl _)
  · subst h
    cases r with
    | ok a s => exact hk a s
    | exc c s => exact .rfl
    | bad => exact .rfl
theorem RLe.comp {r q : R (List PV)} (h : RLe r q) : RLe (lstR r) (lstR q) := by
  rcases h with h | h
  · subst h; exact .inl (Eq.refl _)
  · subst h; exact .rfl
theorem zkP {α : Type} {x : PV} {k l : Bool -> R α} (h : ∀ b, RLe (k b) (l b)) : RLe (onBl x k) (onBl x l) := by
  cases x with
  | bl b => exact h b
  | _ => exact .rfl
theorem zjv {α : Type} {x : Option Bool} {k l : Bool -> R α} (h : ∀ b, RLe (k b) (l b)) : RLe (onO x k) (onO x l) := by
  cases x with
  | some b => exact h b
  | none => exact .rfl
theorem zn6 {x : Option Bool} {k l : Bool -> Fl} (h : ∀ b, FLe (k b) (l b)) : FLe (onF x k) (onF x l) := by
  cases x with
  | some b => exact h b
  | none => exact .rfl
theorem zqb {α : Type} {x : Option (Option Int)} {k l : Option Int -> R α} (h : ∀ b, RLe (k b) (l b)) : RLe (onP x k) (onP x l) := by
  cases x with
  | some b => exact h b
  | none => exact .rfl
theorem zfW {α : Type} {b : Bool} {r q r' q' : R α} (h : RLe r q) (h' : RLe r' q') : RLe (cond b r r') (cond b q q') := by
  cases b
  · exact h'
  · exact h
theorem zjH {b : Bool} {r q r' q' : Fl} (h : FLe r q) (h' : FLe r' q') : FLe (cond b r r') (cond b q q') := by
  cases b
  · exact h'
  · exact h
theorem zhE {f g : PV -> Store -> R (Option PV)} (h : ∀ x s, RLe (f x s) (g x s)) : ∀ xs s, RLe (compL f xs s) (compL g xs s)
  | [], s => .rfl
  | x :: xs, s => (h x s).bind fun o s1 => (zhE h xs s1).bind fun ys s2 => .rfl
theorem zh9 {f g : Fl} {k l : Env -> Store -> Fl} (h : FLe f g) (hk : ∀ ρ s, FLe (k ρ s) (l ρ s)) : FLe (againF f k) (againF g l) := by
  rcases h with h | h
  · subst h; exact .inl (Eq.refl _)
  · subst h
    cases f with
    | nx ρ s => exact hk ρ s
    | ct ρ s => exact hk ρ s
    | _ => exact .rfl
theorem zl6 {t : Tg} {f g : Env -> Store -> Fl} (h : ∀ ρ s, FLe (f ρ s) (g ρ s)) : ∀ xs ρ s, FLe (forL t f xs ρ s) (forL t g xs ρ s)
  | [], ρ, s => .rfl
  | x :: xs, ρ, s => by
    unfold forL
    cases bindT t x ρ with
    | none => exact .rfl
    | some ρ1 => exact zh9 (h ρ1 s) fun ρ2 s2 => zl6 h xs ρ2 s2
theorem zhZ {t u : Env -> Store -> R PV} {f g : Env -> Store -> Fl} (ht : ∀ ρ s, RLe (t ρ s) (u ρ s)) (h : ∀ ρ s, FLe (f ρ s) (g ρ s)) : ∀ n ρ s, FLe (whileL t f n ρ s) (whileL u g n ρ s)
  | 0, ρ, s => .rfl
  | n + 1, ρ, s => by
    unfold whileL
    exact (ht ρ s).fl fun x s1 => zn6 fun b => zjH (zh9 (h ρ s1) fun ρ2 s2 => zhZ ht h n ρ2 s2) .rfl
mutual
theorem zah {c d : Cl} (h : CLe c d) : ∀ (e : Ce) (ρ : Env) (s : Store), RLe (ev c ρ s e) (ev d ρ s e)
  | .cst v, ρ, s => by simp only [ev]; exact .rfl
  | .var i, ρ, s => by simp only [ev]; exact .rfl
  | .bin o a b, ρ, s => by
    simp only [ev]
    exact (zah h a ρ s).bind fun x s1 => (zah h b ρ s1).bind fun y s2 => .rfl
  | .neg a, ρ, s => by
    simp only [ev]
    exact (zah h a ρ s).bind fun x s1 => .rfl
  | .not a, ρ, s => by
    simp only [ev]
    exact (zah h a ρ s).bind fun x s1 => .rfl
  | .and a b, ρ, s => by
    simp only [ev]
    refine (zah h a ρ s).bind fun x s1 => ?_
    exact zkP fun k => zfW (zah h b ρ s1) .rfl
  | .or a b, ρ, s => by
    simp only [ev]
    refine (zah h a ρ s).bind fun x s1 => ?_
    exact zkP fun k => zfW .rfl (zah h b ρ s1)
  | .cmp o a b, ρ, s => by
    simp only [ev]
    exact (zah h a ρ s).bind fun x s1 => (zah h b ρ s1).bind fun y s2 => .rfl
  | .chain o p a b k, ρ, s => by
    simp only [ev]
    refine (zah h a ρ s).bind fun x s1 => (zah h b ρ s1).bind fun y s2 => ?_
    exact zjv fun q => zfW ((zah h k ρ s2).bind fun z s3 => .rfl) .rfl
  | .ite k a b, ρ, s => by
    simp only [ev]
    exact (zah h k ρ s).bind fun x s1 => zjv fun q => zfW (zah h a ρ s1) (zah h b ρ s1)
  | .tup es, ρ, s => by
    simp only [ev]
    exact (ze5 h es ρ s).bind fun x s1 => .rfl
  | .lst es, ρ, s => by
    simp only [ev]
    exact (ze5 h es ρ s).bind fun x s1 => .rfl
  | .newl es, ρ, s => by
    simp only [ev]
    exact (ze5 h es ρ s).bind fun x s1 => .rfl
  | .newd kvs, ρ, s => by simp only [ev]; exact .rfl
  | .dict0 t, ρ, s => by simp only [ev]; exact .rfl
  | .idx a i, ρ, s => by
    simp only [ev]
    exact (zah h a ρ s).bind fun x s1 => (zah h i ρ s1).bind fun y s2 => .rfl
  | .slc a l u, ρ, s => by
    simp only [ev]
    exact (zah h a ρ s).bind fun x s1 => (zah h l ρ s1).bind fun y s2 => zqb fun o => (zah h u ρ s2).bind fun z s3 => .rfl
  | .call f es, ρ, s => by
    simp only [ev]
    exact (ze5 h es ρ s).bind fun x s1 => h f x s1
  | .blt b es, ρ, s => by
    simp only [ev]
    exact (ze5 h es ρ s).bind fun x s1 => .rfl
  | .mth m o es, ρ, s => by
    simp only [ev]
    exact (zah h o ρ s).bind fun x s1 => zjv fun _ => (ze5 h es ρ s1).bind fun y s2 => .rfl
  | .isi a ts, ρ, s => by
    simp only [ev]
    exact (zah h a ρ s).bind fun x s1 => .rfl
  | .comp sl tg it k e, ρ, s => by
    simp only [ev]
    refine (znM h it ρ s).bind fun xs s1 => ?_
    have q := fun (f g : PV -> Store -> R (Option PV)) (hfg : ∀ x s, RLe (f x s) (g x s)) => zhE hfg xs s1
    refine RLe.comp (zhE (fun x s2 => ?_) xs s1)
    cases bindT tg x _ with
    | none => exact .rfl
    | some ρ1 =>
      dsimp only
      exact (zah h k ρ1 s2).bind fun b s3 => zjv fun q => zfW ((zah h e ρ1 s3).bind fun y s4 => .rfl) .rfl
  | .nope, ρ, s => by simp only [ev]; exact .rfl
  | .frz a, ρ, s => by
    simp only [ev]
    exact (zah h a ρ s).bind fun x s1 => .rfl
  | .fst es, ρ, s => by
    simp only [ev]
    exact (ze5 h es ρ s).bind fun x s1 => .rfl
theorem ze5 {c d : Cl} (h : CLe c d) : ∀ (e : Ces) (ρ : Env) (s : Store), RLe (evs c ρ s e) (evs d ρ s e)
  | .nil, ρ, s => by simp only [evs]; exact .rfl
  | .cons e es, ρ, s => by
    simp only [evs]
    exact (zah h e ρ s).bind fun x s1 => (ze5 h es ρ s1).bind fun y s2 => .rfl
theorem znM {c d : Cl} (h : CLe c d) : ∀ (e : Cit) (ρ : Env) (s : Store), RLe (evi c ρ s e) (evi d ρ s e)
  | .seq e, ρ, s => by
    simp only [evi]
    exact (zah h e ρ s).bind fun x s1 => .rfl
  | .range1 a, ρ, s => by
    simp only [evi]
    exact (zah h a ρ s).bind fun x s1 => .rfl
  | .range2 a b, ρ, s => by
    simp only [evi]
    exact (zah h a ρ s).bind fun x s1 => (zah h b ρ s1).bind fun y s2 => .rfl
  | .rangeD a b, ρ, s => by
    simp only [evi]
    exact (zah h a ρ s).bind fun x s1 => (zah h b ρ s1).bind fun y s2 => .rfl
  | .enum e, ρ, s => by
    simp only [evi]
    exact (zah h e ρ s).bind fun x s1 => .rfl
  | .zip a b, ρ, s => by
    simp only [evi]
    exact (zah h a ρ s).bind fun x s1 => (zah h b ρ s1).bind fun y s2 => .rfl
end
mutual
theorem zqp {c d : Cl} (h : CLe c d) : ∀ (x : Cs) (ρ : Env) (s : Store), FLe (ex c ρ s x) (ex d ρ s x)
  | .expr e, ρ, s => by
    simp only [ex]
    exact (zah h e ρ s).fl fun x s1 => .rfl
  | .asg t e, ρ, s => by
    simp only [ex]
    exact (zah h e ρ s).fl fun x s1 => .rfl
  | .six o i e, ρ, s => by
    simp only [ex]
    exact (zah h e ρ s).fl fun x s1 => (zah h o ρ s1).fl fun y s2 => (zah h i ρ s2).fl fun z s3 => .rfl
  | .dput o i e, ρ, s => by
    simp only [ex]
    exact (zah h e ρ s).fl fun x s1 => (zah h o ρ s1).fl fun y s2 => (zah h i ρ s2).fl fun z s3 => .rfl
  | .aug i o e, ρ, s => by
    simp only [ex]
    split
    · exact (zah h e ρ s).fl fun x s1 => .rfl
    · exact .rfl
  | .ret e, ρ, s => by
    simp only [ex]
    exact (zah h e ρ s).fl fun x s1 => .rfl
  | .ite k a b, ρ, s => by
    simp only [ex]
    exact (zah h k ρ s).fl fun x s1 => zn6 fun q => zjH (zed h a ρ s1) (zed h b ρ s1)
  | .for t it b, ρ, s => by
    simp only [ex]
    exact (znM h it ρ s).fl fun xs s1 => zl6 (fun ρ2 s2 => zed h b ρ2 s2) xs ρ s1
  | .while k b, ρ, s => by
    simp only [ex]
    exact zhZ (fun ρ2 s2 => zah h k ρ2 s2) (fun ρ2 s2 => zed h b ρ2 s2) _ ρ s
  | .nope, ρ, s => by simp only [ex]; exact .rfl
  | .brk, ρ, s => by simp only [ex]; exact .rfl
  | .cnt, ρ, s => by simp only [ex]; exact .rfl
  | .pass, ρ, s => by simp only [ex]; exact .rfl
  | .raise k e, ρ, s => by
    simp only [ex]
    exact (zah h e ρ s).fl fun x s1 => .rfl
  | .try b k i u, ρ, s => by
    simp only [ex]
    rcases zed h b ρ s with e | e
    · rw [e]; exact .inl (Eq.refl _)
    · rw [e]
      cases exs d ρ s b with
      | exc q ρ1 s1 =>
        dsimp only
        rcases zed h u (ρ1.set i (some (.exn q))) s1 with e | e
        · rw [e]; exact .inl (Eq.refl _)
        · rw [e]; exact .rfl
      | _ => exact .rfl
theorem zed {c d : Cl} (h : CLe c d) : ∀ (x : Css) (ρ : Env) (s : Store), FLe (exs c ρ s x) (exs d ρ s x)
  | .nil, ρ, s => by simp only [exs]; exact .rfl
  | .cons x xs, ρ, s => by
    simp only [exs]
    rcases zqp h x ρ s with e | e
    · rw [e]; exact .inl (Eq.refl _)
    · rw [e]
      cases ex d ρ s x with
      | nx ρ1 s1 => exact zed h xs ρ1 s1
      | _ => exact .rfl
end
theorem zhO (T : Nat -> Option Fn) : ∀ k, CLe (callT T k) (callT T (k + 1))
  | 0, f, a, s => .inl (Eq.refl _)
  | k + 1, f, a, s => by
    have h := zhO T k
    rw [callT, callT]
    cases T f with
    | none => exact .rfl
    | some fn =>
      dsimp only
      split
      · split
        · split
          · rcases zed h fn.body (a.map some ++ List.replicate (fn.ns - fn.np) none) [] with e | e
            · rw [e]; exact .inl (Eq.refl _)
            · rw [e]; exact .rfl
          · exact .rfl
        · rcases zed h fn.body (a.map some ++ List.replicate (fn.ns - fn.np) none) s with e | e
          · rw [e]; exact .inl (Eq.refl _)
          · rw [e]; exact .rfl
      · exact .rfl
theorem zjA {T : Nat -> Option Fn} {k : Nat} {f : Nat} {a : List PV} {s s' : Store} {v : PV} (h : callT T k f a s = .ok v s') : ∀ j, callT T (k + j) f a s = .ok v s'
  | 0 => h
  | j + 1 => by
    have q := zjA h j
    rcases zhO T (k + j) f a s with e | e
    · rw [q] at e; cases e
    · rw [Nat.add_assoc] at e
      rw [<- e]; exact q
end IC
namespace L2
open PySem PySem.Spec PyProof.Rows IC
abbrev Ph := List (Option Addr)
section
variable (K : PySem.W.Frag) (cl : Nat -> Addr) (B : Addr -> Prop) (φ : Ph) (H : Hp)
def RTup (k : Bool) (a : Addr) (xs : List V) : Prop := (H a = some (.tup xs) /\ ¬ B a /\ some a ∉ φ) \/
  k = true /\ ∃ (o : Obj) (its : Array Value) (n : Nat), K.lookup a = some o /\ o.cls = .type "tuple" /\ o.data = .seq its n /\ its.size <= sizeLine /\ Vals xs its.toList
def RLst (a : Addr) (xs : List V) : Prop := H a = some (.lst xs) /\ ¬ B a /\ some a ∉ φ
def RScr (a : Addr) (xs : List V) : Prop := (Rd H a (.lst xs) /\ ¬ B a /\ some a ∉ φ) \/
  ∃ (o : Obj) (its : Array Value) (n : Nat), K.lookup a = some o /\ o.cls = .type "list" /\ o.dict = none /\ o.data = .seq its n /\ its.size <= sizeLine /\ Vals xs its.toList
mutual
def RepV : PV -> V -> Prop
  | .non, x => x = .non
  | .bl b, x => x = .bl b
  | .int i, x => x = .int i
  | .str s, x => x = .str s
  | .tp k vs, x => ∃ a xs, x = .ref a /\ RTup K B φ H k a xs /\ RepL vs xs
  | .lst vs, x => ∃ a xs, x = .ref a /\ RLst B φ H a xs /\ RepL vs xs
  | .loc n, x => n < φ.length /\ ∃ a, x = .ref a /\ ∀ b, φ[n]? = some (some b) -> b = a
  | .exn c, x => ∃ a, x = .ref a /\ H a = some (.ext (ExcO a (cl c))) /\ ¬ B a /\ some a ∉ φ
  | .scr vs, x => ∃ a xs, x = .ref a /\ RScr K B φ H a xs /\ RepL vs xs
def RepL : List PV -> List V -> Prop
  | [], xs => xs = []
  | v :: vs, xs => ∃ y ys, xs = y :: ys /\ RepV v y /\ RepL vs ys
end
def keyP : Key -> PV
  | .inl i => .int i
  | .inr y => .str y
def DK : List (PV × PV) -> List (Key × V) -> Prop
  | [], ks => ks = []
  | (k, v) :: r, ks => ∃ q x s, ks = (q, x) :: s /\ k = keyP q /\ RepV K cl B φ H v x /\ DK r s
def DT : List (PV × PV) -> List (List Key × V) -> Prop
  | [], ks => ks = []
  | (k, v) :: r, ks => ∃ q x s, ks = (q, x) :: s /\ k = .tup (q.map keyP) /\ RepV K cl B φ H v x /\ DT r s
def RepO : Ob -> Addr -> Prop
  | .lst vs, a => ∃ xs, H a = some (.lst xs) /\ RepL K cl B φ H vs xs
  | .dct false kvs, a => ∃ ks, H a = some (.dK ks) /\ DK K cl B φ H kvs ks
  | .dct true kvs, a => ∃ ks, H a = some (.dT ks) /\ DT K cl B φ H kvs ks
  | .dead, _ => False
structure RepS (st : Store) : Prop where
  len : φ.length = st.length
  inj : ∀ (m n : Nat) (a : Addr), φ[m]? = some (some a) -> φ[n]? = some (some a) -> m = n
  obj : ∀ (n : Nat) (a : Addr), φ[n]? = some (some a) -> ∃ o, st[n]? = some o /\ RepO K cl B φ H o a
  liv : ∀ (n : Nat) (o : Ob), st[n]? = some o -> o ≠ .dead -> ∃ a, φ[n]? = some (some a)
  nb : ∀ a, some a ∈ φ -> ¬ B a
  dom : ∀ a, B a -> ∃ o, H a = some o
structure RepE (ρ : IC.Env) (σ : St) : Prop where
  len : ρ.length = σ.length
  get : ∀ (i : Nat) (v : PV), ρ[i]? = some (some v) -> ∃ x, σ[i]? = some (some x) /\ RepV K cl B φ H v x
end
structure Step (φ : Ph) (H : Hp) (φ' : Ph) (H' : Hp) : Prop where
  keep : ∀ b o, some b ∉ φ -> H b = some o -> H' b = some o
  len : φ.length <= φ'.length
  pre : ∀ (n : Nat) (a : Addr), n < φ.length -> φ'[n]? = some (some a) -> φ[n]? = some (some a)
  new : ∀ b, some b ∈ φ' -> some b ∈ φ \/ H b = none
theorem Step.rfl {φ : Ph} {H : Hp} : Step φ H φ H := ⟨fun _ _ _ e => e, Nat.le_refl _, fun _ _ _ e => e, fun _ h => .inl h⟩
theorem Step.trans {φ φ1 φ2 : Ph} {H H1 H2 : Hp} (s : Step φ H φ1 H1) (t : Step φ1 H1 φ2 H2) : Step φ H φ2 H2 := by
  refine ⟨fun b o n e => ?_, Nat.le_trans s.len t.len, fun n a hn e => s.pre n a hn (t.pre n a (Nat.lt_of_lt_of_le hn s.len) e), fun b hb => ?_⟩
  · refine t.keep b o (fun h => ?_) (s.keep b o n e)
    rcases s.new b h with q | q
    · exact n q
    · rw [e] at q; cases q
  · rcases t.new b hb with q | q
    · exact s.new b q
    · by_cases h : some b ∈ φ
      · exact .inl h
      · refine .inr ?_
        cases e : H b with
        | none => exact Eq.refl _
        | some o => rw [s.keep b o h e] at q; cases q
section
variable {K : PySem.W.Frag} {cl : Nat -> Addr} {B : Addr -> Prop} {φ φ' : Ph} {H H' : Hp} {st : Store} {ρ : IC.Env} {σ : St}
theorem Rd.step (s : Step φ H φ' H') {a : Addr} {u : HO} (n : some a ∉ φ) (r : Rd H a u) : Rd H' a u /\ some a ∉ φ' := by
  have h : ∃ o, H a = some o := by
    rcases r with r | ⟨o, r⟩ <;> exact ⟨_, r⟩
  refine ⟨?_, fun z => ?_⟩
  · rcases r with r | ⟨o, r⟩
    · exact .inl (s.keep _ _ n r)
    · exact .inr ⟨o, s.keep _ _ n r⟩
  · obtain ⟨o, e⟩ := h
    rcases s.new a z with q | q
    · exact n q
    · rw [e] at q; cases q
theorem RTup.step (s : Step φ H φ' H') {k : Bool} {a : Addr} {xs : List V} (r : RTup K B φ H k a xs) : RTup K B φ' H' k a xs := by
  rcases r with ⟨r, b, n⟩ | r
  · obtain ⟨_, n'⟩ := (Rd.of r).step s n
    exact .inl ⟨s.keep _ _ n r, b, n'⟩
  · exact .inr r
theorem RLst.step (s : Step φ H φ' H') {a : Addr} {xs : List V} (r : RLst B φ H a xs) : RLst B φ' H' a xs := by
  obtain ⟨r, b, n⟩ := r
  obtain ⟨_, n'⟩ := (Rd.of r).step s n
  exact ⟨s.keep _ _ n r, b, n'⟩
theorem RScr.step (s : Step φ H φ' H') {a : Addr} {xs : List V} (r : RScr K B φ H a xs) : RScr K B φ' H' a xs := by
  rcases r with ⟨r, b, n⟩ | r
  · obtain ⟨r', n'⟩ := r.step s n
    exact .inl ⟨r', b, n'⟩
  · exact .inr r
mutual
theorem RepV.step (s : Step φ H φ' H') : ∀ (v : PV) (x : V), RepV K cl B φ H v x -> RepV K cl B φ' H' v x
  | .non, x, h => by simp only [RepV] at h ⊢; exact h
  | .bl b, x, h => by simp only [RepV] at h ⊢; exact h
  | .int i, x, h => by simp only [RepV] at h ⊢; exact h
  | .str y, x, h => by simp only [RepV] at h ⊢; exact h
  | .tp k vs, x, h => by
    simp only [RepV] at h ⊢
    obtain ⟨a, xs, e, r, l⟩ := h
    exact ⟨a, xs, e, r.step s, RepL.step s vs xs l⟩
  | .lst vs, x, h => by
    simp only [RepV] at h ⊢
    obtain ⟨a, xs, e, r, l⟩ := h
    exact ⟨a, xs, e, r.step s, RepL.step s vs xs l⟩
  | .loc n, x, h => by
    simp only [RepV] at h ⊢
    obtain ⟨h1, a, e, h2⟩ := h
    exact ⟨Nat.lt_of_lt_of_le h1 s.len, a, e, fun b q => h2 b (s.pre n b h1 q)⟩
  | .exn c, x, h => by
    simp only [RepV] at h ⊢
    obtain ⟨a, e, r, b, n⟩ := h
    obtain ⟨_, n'⟩ := (Rd.of r).step s n
    exact ⟨a, e, s.keep _ _ n r, b, n'⟩
  | .scr vs, x, h => by
    simp only [RepV] at h ⊢
    obtain ⟨a, xs, e, r, l⟩ := h
    exact ⟨a, xs, e, r.step s, RepL.step s vs xs l⟩
theorem RepL.step (s : Step φ H φ' H') : ∀ (v : List PV) (x : List V), RepL K cl B φ H v x -> RepL K cl B φ' H' v x
  | [], x, h => by simp only [RepL] at h ⊢; exact h
  | v :: vs, x, h => by
    simp only [RepL] at h ⊢
    obtain ⟨y, ys, e, r, l⟩ := h
    exact ⟨y, ys, e, RepV.step s v y r, RepL.step s vs ys l⟩
end
theorem RepE.step (s : Step φ H φ' H') (r : RepE K cl B φ H ρ σ) : RepE K cl B φ' H' ρ σ := ⟨r.len, fun i v e => by
  obtain ⟨x, h, q⟩ := r.get i v e
  exact ⟨x, h, q.step s⟩⟩
mutual
theorem RepV.inn (hn : ∀ a, some a ∈ φ -> ¬ B a) : ∀ (v : PV) (x : V), noLoc v = true -> RepV K cl B φ H v x -> RepV K cl (fun a => B a \/ some a ∈ φ) [] H v x
  | .non, x, _, h => by simp only [RepV] at h ⊢; exact h
  | .bl b, x, _, h => by simp only [RepV] at h ⊢; exact h
  | .int i, x, _, h => by simp only [RepV] at h ⊢; exact h
  | .str y, x, _, h => by simp only [RepV] at h ⊢; exact h
  | .tp k vs, x, q, h => by
    simp only [RepV] at h ⊢
    obtain ⟨a, xs, e, r, l⟩ := h
    refine ⟨a, xs, e, ?_, RepL.inn hn vs xs (by simpa only [noLoc] using q) l⟩
    rcases r with ⟨r, b, n⟩ | r
    · exact .inl ⟨r, fun z => z.elim b n, by simp⟩
    · exact .inr r
  | .lst vs, x, q, h => by
    simp only [RepV] at h ⊢
    obtain ⟨a, xs, e, ⟨r, b, n⟩, l⟩ := h
    exact ⟨a, xs, e, ⟨r, fun z => z.elim b n, by simp⟩, RepL.inn hn vs xs (by simpa only [noLoc] using q) l⟩
  | .loc n, x, q, h => by simp [noLoc] at q
  | .exn c, x, q, h => by simp [noLoc] at q
  | .scr vs, x, q, h => by
    simp only [RepV] at h ⊢
    obtain ⟨a, xs, e, r, l⟩ := h
    refine ⟨a, xs, e, ?_, RepL.inn hn vs xs (by simpa only [noLoc] using q) l⟩
    rcases r with ⟨r, b, n⟩ | r
    · exact .inl ⟨r, fun z => z.elim b n, by simp⟩
    · exact .inr r
theorem RepL.inn (hn : ∀ a, some a ∈ φ -> ¬ B a) : ∀ (v : List PV) (x : List V), noLocs v = true -> RepL K cl B φ H v x -> RepL K cl (fun a => B a \/ some a ∈ φ) [] H v x
  | [], x, _, h => by simp only [RepL] at h ⊢; exact h
  | v :: vs, x, q, h => by
    simp only [RepL] at h ⊢
    simp only [noLocs, Bool.and_eq_true] at q
    obtain ⟨y, ys, e, r, l⟩ := h
    exact ⟨y, ys, e, RepV.inn hn v y q.1 r, RepL.inn hn vs ys q.2 l⟩
end
mutual
theorem RepV.out {ψ : Ph} : ∀ (v : PV) (x : V), noLoc v = true -> RepV K cl (fun a => B a \/ some a ∈ φ) ψ H v x -> RepV K cl B φ H v x
  | .non, x, _, h => by simp only [RepV] at h ⊢; exact h
  | .bl b, x, _, h => by simp only [RepV] at h ⊢; exact h
  | .int i, x, _, h => by simp only [RepV] at h ⊢; exact h
  | .str y, x, _, h => by simp only [RepV] at h ⊢; exact h
  | .tp k vs, x, q, h => by
    simp only [RepV] at h ⊢
    obtain ⟨a, xs, e, r, l⟩ := h
    refine ⟨a, xs, e, ?_, RepL.out vs xs (by simpa only [noLoc] using q) l⟩
    rcases r with ⟨r, b, n⟩ | r
    · exact .inl ⟨r, fun z => b (.inl z), fun z => b (.inr z)⟩
    · exact .inr r
  | .lst vs, x, q, h => by
    simp only [RepV] at h ⊢
    obtain ⟨a, xs, e, ⟨r, b, n⟩, l⟩ := h
    exact ⟨a, xs, e, ⟨r, fun z => b (.inl z), fun z => b (.inr z)⟩, RepL.out vs xs (by simpa only [noLoc] using q) l⟩
  | .loc n, x, q, h => by simp [noLoc] at q
  | .exn c, x, q, h => by simp [noLoc] at q
  | .scr vs, x, q, h => by
    simp only [RepV] at h ⊢
    obtain ⟨a, xs, e, r, l⟩ := h
    refine ⟨a, xs, e, ?_, RepL.out vs xs (by simpa only [noLoc] using q) l⟩
    rcases r with ⟨r, b, n⟩ | r
    · exact .inl ⟨r, fun z => b (.inl z), fun z => b (.inr z)⟩
    · exact .inr r
theorem RepL.out {ψ : Ph} : ∀ (v : List PV) (x : List V), noLocs v = true -> RepL K cl (fun a => B a \/ some a ∈ φ) ψ H v x -> RepL K cl B φ H v x
  | [], x, _, h => by simp only [RepL] at h ⊢; exact h
  | v :: vs, x, q, h => by
    simp only [RepL] at h ⊢
    simp only [noLocs, Bool.and_eq_true] at q
    obtain ⟨y, ys, e, r, l⟩ := h
    exact ⟨y, ys, e, RepV.out v y q.1 r, RepL.out vs ys q.2 l⟩
end
theorem RepL.length : ∀ {v : List PV} {x : List V}, RepL K cl B φ H v x -> v.length = x.length
  | [], x, h => by simp only [RepL] at h; subst h; rfl
  | v :: vs, x, h => by
    simp only [RepL] at h
    obtain ⟨y, ys, rfl, _, l⟩ := h
    simp [RepL.length l]
theorem DK.step (s : Step φ H φ' H') : ∀ {kvs : List (PV × PV)} {ks : List (Key × V)}, DK K cl B φ H kvs ks -> DK K cl B φ' H' kvs ks
  | [], ks, h => h
  | (k, v) :: r, ks, h => by
    obtain ⟨q, x, t, e, m, rv, l⟩ := h
    exact ⟨q, x, t, e, m, rv.step s, DK.step s l⟩
theorem DT.step (s : Step φ H φ' H') : ∀ {kvs : List (PV × PV)} {ks : List (List Key × V)}, DT K cl B φ H kvs ks -> DT K cl B φ' H' kvs ks
  | [], ks, h => h
  | (k, v) :: r, ks, h => by
    obtain ⟨q, x, t, e, m, rv, l⟩ := h
    exact ⟨q, x, t, e, m, rv.step s, DT.step s l⟩
theorem RepO.step (s : Step φ H φ' H') {o : Ob} {a : Addr} (e : H' a = H a) (r : RepO K cl B φ H o a) : RepO K cl B φ' H' o a := by
  cases o with
  | lst vs =>
    obtain ⟨xs, q, l⟩ := r
    exact ⟨xs, e.trans q, l.step s⟩
  | dct t kvs =>
    cases t with
    | false => obtain ⟨ks, q, l⟩ := r; exact ⟨ks, e.trans q, l.step s⟩
    | true => obtain ⟨ks, q, l⟩ := r; exact ⟨ks, e.trans q, l.step s⟩
  | dead => exact r
theorem RepO.there {o : Ob} {a : Addr} (r : RepO K cl B φ H o a) : ∃ u, H a = some u := by
  cases o with
  | lst vs => obtain ⟨xs, q, l⟩ := r; exact ⟨_, q⟩
  | dct t kvs => cases t <;> (obtain ⟨ks, q, l⟩ := r; exact ⟨_, q⟩)
  | dead => exact r.elim
theorem RepS.there (S : RepS K cl B φ H st) {a : Addr} (h : some a ∈ φ) : ∃ u, H a = some u := by
  obtain ⟨n, e⟩ := List.mem_iff_getElem?.mp h
  obtain ⟨o, _, r⟩ := S.obj n a e
  exact r.there
theorem Step.upd {p : Addr} {o : HO} (hp : H p = none) : Step φ H φ (upd H p o) :=
  ⟨fun b u n e => by rw [zV (z7 e hp)]; exact e, Nat.le_refl _, fun _ _ _ e => e, fun _ h => .inl h⟩
theorem RepS.same (S : RepS K cl B φ H st) (k : ∀ b o, H b = some o -> H' b = some o) : RepS K cl B φ H' st := by
  have s : Step φ H φ H' := ⟨fun b o _ e => k b o e, Nat.le_refl _, fun _ _ _ e => e, fun _ h => .inl h⟩
  refine ⟨S.len, S.inj, fun n a e => ?_, S.liv, S.nb, fun a h => ?_⟩
  · obtain ⟨o, q, r⟩ := S.obj n a e
    obtain ⟨u, z⟩ := r.there
    exact ⟨o, q, r.step s ((k a u z).trans z.symm)⟩
  · obtain ⟨o, q⟩ := S.dom a h
    exact ⟨o, k a o q⟩
theorem RepS.upd {p : Addr} {o : HO} (S : RepS K cl B φ H st) (hp : H p = none) : RepS K cl B φ (upd H p o) st := S.same fun b u e => by rw [zV (z7 e hp)]; exact e
mutual
theorem RepV.moreB {B' : Addr -> Prop} (hn : ∀ y, B' y -> B y \/ H y = none) : ∀ (v : PV) (x : V), RepV K cl B φ H v x -> RepV K cl B' φ H v x
  | .non, x, h => by simp only [RepV] at h ⊢; exact h
  | .bl b, x, h => by simp only [RepV] at h ⊢; exact h
  | .int i, x, h => by simp only [RepV] at h ⊢; exact h
  | .str y, x, h => by simp only [RepV] at h ⊢; exact h
  | .tp k vs, x, h => by
    simp only [RepV] at h ⊢
    obtain ⟨y, xs, e, r, l⟩ := h
    refine ⟨y, xs, e, ?_, RepL.moreB hn vs xs l⟩
    rcases r with ⟨r, b, n⟩ | r
    · exact .inl ⟨r, fun z => (hn y z).elim b fun q => (by rw [q] at r; cases r), n⟩
    · exact .inr r
  | .lst vs, x, h => by
    simp only [RepV] at h ⊢
    obtain ⟨y, xs, e, ⟨r, b, n⟩, l⟩ := h
    exact ⟨y, xs, e, ⟨r, fun z => (hn y z).elim b fun q => (by rw [q] at r; cases r), n⟩, RepL.moreB hn vs xs l⟩
  | .loc n, x, h => by simp only [RepV] at h ⊢; exact h
  | .exn c, x, h => by
    simp only [RepV] at h ⊢
    obtain ⟨y, e, r, b, n⟩ := h
    exact ⟨y, e, r, fun z => (hn y z).elim b fun q => (by rw [q] at r; cases r), n⟩
  | .scr vs, x, h => by
    simp only [RepV] at h ⊢
    obtain ⟨y, xs, e, r, l⟩ := h
    refine ⟨y, xs, e, ?_, RepL.moreB hn vs xs l⟩
    rcases r with ⟨r, b, n⟩ | r
    · refine .inl ⟨r, fun z => (hn y z).elim b fun q => ?_, n⟩
      rcases r with r | ⟨o, r⟩ <;> (rw [q] at r; cases r)
    · exact .inr r
theorem RepL.moreB {B' : Addr -> Prop} (hn : ∀ y, B' y -> B y \/ H y = none) : ∀ (v : List PV) (x : List V), RepL K cl B φ H v x -> RepL K cl B' φ H v x
  | [], x, h => by simp only [RepL] at h ⊢; exact h
  | v :: vs, x, h => by
    simp only [RepL] at h ⊢
    obtain ⟨y, ys, e, r, l⟩ := h
    exact ⟨y, ys, e, RepV.moreB hn v y r, RepL.moreB hn vs ys l⟩
end
end
end L2
namespace L2
open PySem PySem.Spec PyProof.Rows IC
structure Se where
  cl : Nat -> Addr
  call : Nat -> List PV -> Store -> R PV
  may : Bool
section
variable (S : Se) (X : Cx)
def ExcAt (σ : St) (B : Addr -> Prop) (φ : Ph) (H : Hp) (k : Nat) (st' : Store) (e : Value) (s' : Shared) : Prop :=
  (∃ pins H1 s φ1, Inv X pins σ H1 s /\ Step φ H φ1 H1 /\ CX1 X.prog X.w X.stack H1 s (fun cls _ H' => cls = .ref (S.cl k) /\ ∃ φ', Step φ1 H1 φ' H' /\ RepS X.K S.cl B φ' H' st') e s') \/
  (S.may = true /\ ∃ pins H1 s φ1 h' e0 vs, Inv X pins σ H1 s /\ Step φ H φ1 H1 /\ RepS X.K S.cl B φ1 H1 st' /\ Heap.MadeExcOf s.heap h' e0 (.ref (S.cl k)) vs /\ e = .ref e0 /\ s' = { s with heap := h' })
def Run {α β : Type} (σ : St) (B : Addr -> Prop) (φ : Ph) (H : Hp) (Rel : Ph -> Hp -> α -> β -> Prop) (r : R α) (Q : β -> Hp -> Prop) : Prop :=
  match r with
  | .ok v st' => ∀ x H' φ', Step φ H φ' H' -> RepS X.K S.cl B φ' H' st' -> Rel φ' H' v x -> Q x H'
  | .exc k st' => ∀ e s', ExcAt S X σ B φ H k st' e s' -> X.xe e s'
  | .bad => False
abbrev RV (B : Addr -> Prop) : Ph -> Hp -> PV -> V -> Prop := fun φ H => RepV X.K S.cl B φ H
abbrev RL (B : Addr -> Prop) : Ph -> Hp -> List PV -> List V -> Prop := fun φ H => RepL X.K S.cl B φ H
abbrev RB : Ph -> Hp -> Bool -> Bool -> Prop := fun _ _ b c => b = c
def tE (c : Ce) : TE := fun σ H Q => ∃ B φ st ρ, RepS X.K S.cl B φ H st /\ RepE X.K S.cl B φ H ρ σ /\ Run S X σ B φ H (RV S X B) (ev S.call ρ st c) Q
def tAs (c : Ces) : TA := fun σ H Q => ∃ B φ st ρ, RepS X.K S.cl B φ H st /\ RepE X.K S.cl B φ H ρ σ /\ Run S X σ B φ H (RL S X B) (evs S.call ρ st c) Q
def truR (r : R PV) : R Bool := r.bind fun x st => onO (truV st x) fun b => .ok b st
def tTs (c : Ce) : TT := fun σ H Q => ∃ B φ st ρ, RepS X.K S.cl B φ H st /\ RepE X.K S.cl B φ H ρ σ /\ Run S X σ B φ H RB (truR (ev S.call ρ st c)) Q
end
section
variable {S : Se} {X : Cx} {σ : St} {B : Addr -> Prop} {φ φ1 : Ph} {H H1 : Hp}
theorem ExcAt.back {k : Nat} {st' : Store} {e : Value} {s' : Shared} (s : Step φ H φ1 H1) (h : ExcAt S X σ B φ1 H1 k st' e s') : ExcAt S X σ B φ H k st' e s' := by
  rcases h with ⟨pins, H2, t, φ2, I, q, c⟩ | ⟨m, pins, H2, t, φ2, h', e0, vs, I, q, c⟩
  · exact .inl ⟨pins, H2, t, φ2, I, s.trans q, c⟩
  · exact .inr ⟨m, pins, H2, t, φ2, h', e0, vs, I, s.trans q, c⟩
variable {α β γ δ : Type} {Rel : Ph -> Hp -> α -> β -> Prop} {Rel2 : Ph -> Hp -> γ -> δ -> Prop}
theorem Run.on {r : R α} {Q : β -> Hp -> Prop} (s : Step φ H φ1 H1) (h : Run S X σ B φ H Rel r Q) : Run S X σ B φ1 H1 Rel r Q := by
  cases r with
  | ok v st' => exact fun x H' φ' t => h x H' φ' (s.trans t)
  | exc k st' => exact fun e s' x => h e s' (x.back s)
  | bad => exact h
theorem Run.mono {r : R α} {Q Q' : β -> Hp -> Prop} (h : Run S X σ B φ H Rel r Q) (k : ∀ x H', Q x H' -> Q' x H') : Run S X σ B φ H Rel r Q' := by
  cases r with
  | ok v st' => exact fun x H' φ' t rs rv => k x H' (h x H' φ' t rs rv)
  | exc c st' => exact h
  | bad => exact h
theorem Run.bind {r : R α} {k : α -> Store -> R γ} {Q : δ -> Hp -> Prop} (h : Run S X σ B φ H Rel2 (r.bind k) Q) :
    Run S X σ B φ H Rel r fun x H1 => ∃ v st1 φ1, Step φ H φ1 H1 /\ RepS X.K S.cl B φ1 H1 st1 /\ Rel φ1 H1 v x /\ Run S X σ B φ1 H1 Rel2 (k v st1) Q := by
  cases r with
  | ok v st' => exact fun x H' φ' t rs rv => ⟨v, st', φ', t, rs, rv, Run.on t h⟩
  | exc c st' => exact h
  | bad => exact h
theorem Run.ok {v : α} {st : Store} {Q : β -> Hp -> Prop} (h : Run S X σ B φ H Rel (.ok v st) Q) (rs : RepS X.K S.cl B φ H st) {x : β} (rv : Rel φ H v x) : Q x H := h x H φ .rfl rs rv
theorem PE.imp {e : Expr} {t t' : TE} (h : PE X e t') (k : ∀ σ H Q, t σ H Q -> t' σ H Q) : PE X e t := fun pins s σ H Q I q => h pins s σ H Q I (k σ H Q q)
theorem PT.imp {e : Expr} {t t' : TT} (h : PT X e t') (k : ∀ σ H Q, t σ H Q -> t' σ H Q) : PT X e t := fun pins s σ H Q I q => h pins s σ H Q I (k σ H Q q)
theorem PW.imp {e : Expr} {t t' : TT} (h : PW X e t') (k : ∀ σ H Q, t σ H Q -> t' σ H Q) : PW X e t := fun wh pins s σ H Q I q => h wh pins s σ H Q I (k σ H Q q)
theorem PA.imp {e : List Expr} {t t' : TA} (h : PA X e t') (k : ∀ σ H Q, t σ H Q -> t' σ H Q) : PA X e t := fun pos pins s σ H Q I q => h pos pins s σ H Q I (k σ H Q q)
theorem tE.bind {c : Ce} {ρ : IC.Env} {st : Store} {k : PV -> Store -> R γ} {Q : δ -> Hp -> Prop} {P : V -> Hp -> Prop} (rs : RepS X.K S.cl B φ H st) (re : RepE X.K S.cl B φ H ρ σ) (h : Run S X σ B φ H Rel2 ((ev S.call ρ st c).bind k) Q)
    (n : ∀ x H1 v st1 φ1, Step φ H φ1 H1 -> RepS X.K S.cl B φ1 H1 st1 -> RepE X.K S.cl B φ1 H1 ρ σ -> RepV X.K S.cl B φ1 H1 v x -> Run S X σ B φ1 H1 Rel2 (k v st1) Q -> P x H1) : tE S X c σ H P :=
  ⟨B, φ, st, ρ, rs, re, (Run.bind h).mono fun x H1 ⟨v, st1, φ1, s, rs1, rv, h1⟩ => n x H1 v st1 φ1 s rs1 (re.step s) rv h1⟩
theorem tAs.bind {c : Ces} {ρ : IC.Env} {st : Store} {k : List PV -> Store -> R γ} {Q : δ -> Hp -> Prop} {P : List V -> Hp -> Prop} (rs : RepS X.K S.cl B φ H st) (re : RepE X.K S.cl B φ H ρ σ) (h : Run S X σ B φ H Rel2 ((evs S.call ρ st c).bind k) Q)
    (n : ∀ x H1 v st1 φ1, Step φ H φ1 H1 -> RepS X.K S.cl B φ1 H1 st1 -> RepE X.K S.cl B φ1 H1 ρ σ -> RepL X.K S.cl B φ1 H1 v x -> Run S X σ B φ1 H1 Rel2 (k v st1) Q -> P x H1) : tAs S X c σ H P :=
  ⟨B, φ, st, ρ, rs, re, (Run.bind h).mono fun x H1 ⟨v, st1, φ1, s, rs1, rv, h1⟩ => n x H1 v st1 φ1 s rs1 (re.step s) rv h1⟩
variable {i : Int} {b : Bool} {x : Str} {j : Nat} {pos : Pos} {e a a' : Expr} {c ca cb cc : Ce}
theorem zc : PE X (.Constant (.int i) j pos) (tE S X (.cst (.int i))) := pe_int.imp fun σ H Q ⟨B, φ, st, ρ, rs, re, h⟩ => by
  simp only [ev] at h
  exact h.ok rs (by simp only [RepV])
theorem zns : PE X (.Constant (.bool b) j pos) (tE S X (.cst (.bl b))) := pe_bl.imp fun σ H Q ⟨B, φ, st, ρ, rs, re, h⟩ => by
  simp only [ev] at h
  exact h.ok rs (by simp only [RepV])
theorem zn2 : PE X (.Constant .none j pos) (tE S X (.cst .non)) := pe_non.imp fun σ H Q ⟨B, φ, st, ρ, rs, re, h⟩ => by
  simp only [ev] at h
  exact h.ok rs (by simp only [RepV])
theorem zl : PE X (.Constant (.str x) j pos) (tE S X (.cst (.str x))) := pe_str.imp fun σ H Q ⟨B, φ, st, ρ, rs, re, h⟩ => by
  simp only [ev] at h
  exact h.ok rs (by simp only [RepV])
theorem zn9 {i : Nat} (hN : X.N[i]? = some x) (hv : Vis X.env.scope x) (hd : (x == ("__debug__" : Str)) = false := by decide) (hcd : (x == ("__classdict__" : Str)) = false := by decide) : PE X (.Name x pos) (tE S X (.var i)) :=
  (zpo hN hv hd hcd).imp fun σ H Q ⟨B, φ, st, ρ, rs, re, h⟩ => by
    simp only [ev] at h
    cases q : ρ[i]? with
    | none => rw [q] at h; exact h.elim
    | some o =>
      cases o with
      | none => rw [q] at h; exact h.elim
      | some v =>
        rw [q] at h
        obtain ⟨y, hy, rv⟩ := re.get i v q
        exact ⟨y, hy, h.ok rs rv⟩
theorem zoA {v : PV} {y : Addr} (hg : Gl X x) (hm : X.mg x = some (.ref y)) (hk : ∀ B φ H, RepV X.K S.cl B φ H v (.ref y)) (hd : (x == ("__debug__" : Str)) = false := by decide) : PE X (.Name x pos) (tE S X (.cst v)) :=
  (zoy hg hm (show RelV (.ref y) (.ref y) from rfl) hd).imp fun σ H Q ⟨B, φ, st, ρ, rs, re, h⟩ => by
    simp only [ev] at h
    exact h.ok rs (hk B φ H)
theorem zdm {o : Option PV} {st : Store} {Q : VK} (h : Run S X σ B φ H (RV S X B) (toR o st) Q) (rs : RepS X.K S.cl B φ H st) : ∃ z, o = some z /\ ∀ z' H' φ', Step φ H φ' H' -> RepS X.K S.cl B φ' H' st -> RepV X.K S.cl B φ' H' z z' -> Q z' H' := by
  cases o with
  | none => exact h.elim
  | some z => exact ⟨z, rfl, h⟩
def rT2 (S : Se) (X : Cx) (f : PV -> PV -> Option PV) : R2 := fun x y H Q => ∃ B φ st v w z, RepS X.K S.cl B φ H st /\ RepV X.K S.cl B φ H v x /\ RepV X.K S.cl B φ H w y /\ f v w = some z /\
  ∀ z' H' φ', Step φ H φ' H' -> RepS X.K S.cl B φ' H' st -> RepV X.K S.cl B φ' H' z z' -> Q z' H'
theorem zk {op : Operator} {o : BOp} (ho : OpR X (binaryOp op) (rT2 S X (binV o))) (ha : PE X a (tE S X ca)) (hb : PE X a' (tE S X cb)) : PE X (.BinOp a op a' pos) (tE S X (.bin o ca cb)) :=
  (zqw ho ha hb).imp fun σ H Q ⟨B, φ, st, ρ, rs, re, h⟩ => by
    simp only [ev] at h
    refine tE.bind rs re h fun x H1 v st1 φ1 s1 rs1 re1 rv h1 => tE.bind rs1 re1 h1 fun y H2 w st2 φ2 s2 rs2 re2 rw h2 => ?_
    obtain ⟨z, e, q⟩ := zdm h2 rs2
    exact ⟨B, φ2, st2, v, w, z, rs2, rv.step s2, rw, e, q⟩
theorem zbw {op : CmpOp} {o : COp} (ho : OpR X (compareOp op) (rT2 S X (cmpV o))) (ha : PE X a (tE S X ca)) (hb : PE X a' (tE S X cb)) (hm : behindInMarks op a' = false) : PE X (.Compare a [op] [a'] pos) (tE S X (.cmp o ca cb)) :=
  (zoI ho ha hb hm).imp fun σ H Q ⟨B, φ, st, ρ, rs, re, h⟩ => by
    simp only [ev] at h
    refine tE.bind rs re h fun x H1 v st1 φ1 s1 rs1 re1 rv h1 => tE.bind rs1 re1 h1 fun y H2 w st2 φ2 s2 rs2 re2 rw h2 => ?_
    obtain ⟨z, e, q⟩ := zdm h2 rs2
    exact ⟨B, φ2, st2, v, w, z, rs2, rv.step s2, rw, e, q⟩
end
end L2
namespace L2
open PySem PySem.Spec PyProof.Rows IC
section
variable {S : Se} {X : Cx} {σ : St} {B : Addr -> Prop} {φ φ1 : Ph} {H H1 : Hp} {K : PySem.W.Frag} {cl : Nat -> Addr} {st : Store}
theorem RTup.sq {k : Bool} {a : Addr} {xs : List V} (r : RTup K B φ H k a xs) : SqT K H a xs := by
  rcases r with ⟨r, _⟩ | r
  · exact .inl (.inl r)
  · exact .inr r.2
theorem RLst.sq {a : Addr} {xs : List V} (r : RLst B φ H a xs) : SqL K H a xs := .inl (.inl r.1)
theorem RepV.tup_new {vs : List PV} {xs : List V} {p : Addr} (hp : H p = none) (rs : RepS K cl B φ H st) (r : RepL K cl B φ H vs xs) : RepV K cl B φ (upd H p (.tup xs)) (.tup vs) (.ref p) := by
  simp only [RepV]
  refine ⟨p, xs, rfl, .inl ⟨zar, fun z => ?_, fun z => ?_⟩, r.step (.upd hp)⟩
  · obtain ⟨o, e⟩ := rs.dom p z
    rw [hp] at e; cases e
  · obtain ⟨o, e⟩ := rs.there z
    rw [hp] at e; cases e
theorem RepV.lst_new {vs : List PV} {xs : List V} {p : Addr} (hp : H p = none) (rs : RepS K cl B φ H st) (r : RepL K cl B φ H vs xs) : RepV K cl B φ (upd H p (.lst xs)) (.lst vs) (.ref p) := by
  simp only [RepV]
  refine ⟨p, xs, rfl, ⟨zar, fun z => ?_, fun z => ?_⟩, r.step (.upd hp)⟩
  · obtain ⟨o, e⟩ := rs.dom p z
    rw [hp] at e; cases e
  · obtain ⟨o, e⟩ := rs.there z
    rw [hp] at e; cases e
theorem RepL.append : ∀ {vs ws : List PV} {xs ys : List V}, RepL K cl B φ H vs xs -> RepL K cl B φ H ws ys -> RepL K cl B φ H (vs ++ ws) (xs ++ ys)
  | [], ws, xs, ys, h, q => by simp only [RepL] at h; subst h; exact q
  | v :: vs, ws, xs, ys, h, q => by
    simp only [RepL] at h
    obtain ⟨y, zs, rfl, r, l⟩ := h
    show RepL K cl B φ H (v :: (vs ++ ws)) (y :: (zs ++ ys))
    simp only [RepL]
    exact ⟨y, zs ++ ys, rfl, r, RepL.append l q⟩
theorem RepL.get : ∀ {vs : List PV} {xs : List V} (j : Nat) {v : PV}, RepL K cl B φ H vs xs -> vs[j]? = some v -> ∃ x, xs[j]? = some x /\ RepV K cl B φ H v x
  | [], xs, j, v, h, e => by simp at e
  | w :: vs, xs, 0, v, h, e => by
    simp only [RepL] at h
    obtain ⟨y, zs, rfl, r, l⟩ := h
    simp at e; subst e
    exact ⟨y, rfl, r⟩
  | w :: vs, xs, j + 1, v, h, e => by
    simp only [RepL] at h
    obtain ⟨y, zs, rfl, r, l⟩ := h
    obtain ⟨x, q1, q2⟩ := RepL.get j l (by simpa using e)
    exact ⟨x, by simpa using q1, q2⟩
theorem RepL.drop : ∀ {vs : List PV} {xs : List V} (n : Nat), RepL K cl B φ H vs xs -> RepL K cl B φ H (vs.drop n) (xs.drop n)
  | vs, xs, 0, h => by simpa using h
  | [], xs, n + 1, h => by simp only [RepL] at h; subst h; simp [RepL]
  | v :: vs, xs, n + 1, h => by
    simp only [RepL] at h
    obtain ⟨y, ys, rfl, _, l⟩ := h
    simpa using RepL.drop n l
theorem RepL.take : ∀ {vs : List PV} {xs : List V} (n : Nat), RepL K cl B φ H vs xs -> RepL K cl B φ H (vs.take n) (xs.take n)
  | vs, xs, 0, h => by simp [RepL]
  | [], xs, n + 1, h => by simp only [RepL] at h; subst h; simp [RepL]
  | v :: vs, xs, n + 1, h => by
    simp only [RepL] at h
    obtain ⟨y, ys, rfl, r, l⟩ := h
    simp only [List.take_succ_cons, RepL]
    exact ⟨y, ys.take n, rfl, r, RepL.take n l⟩
theorem zhs {f : Value -> Value -> Sem Value} {o : BOp} {C : Int -> Int -> Prop} {g : Int -> Int -> Int} (h : OpR X f (rI C fun i j => .int (g i j)))
    (hb : ∀ v w z, binV o v w = some z -> ∃ i j, v = .int i /\ w = .int j /\ C i j /\ z = .int (g i j)) : OpR X f (rT2 S X (binV o)) := by
  rintro pins s σ H x y v u Q I rx ry ⟨B, φ, st, a, b, z, rs, ra, rb, e, q⟩
  obtain ⟨i, j, rfl, rfl, hc, rfl⟩ := hb a b z e
  simp only [RepV] at ra rb
  subst ra rb
  exact h pins s σ H _ _ v u Q I rx ry ⟨i, j, rfl, rfl, hc, q _ H φ .rfl rs (by simp only [RepV])⟩
theorem zfF {f : Value -> Value -> Sem Value} {o : BOp} {g : Int -> Int -> Int} (h : OpR X f (rI0 fun i j => .int (g i j)))
    (hb : ∀ v w z, binV o v w = some z -> ∃ i j, v = .int i /\ w = .int j /\ z = .int (g i j)) : OpR X f (rT2 S X (binV o)) := by
  rintro pins s σ H x y v u Q I rx ry ⟨B, φ, st, a, b, z, rs, ra, rb, e, q⟩
  obtain ⟨i, j, rfl, rfl, rfl⟩ := hb a b z e
  simp only [RepV] at ra rb
  subst ra rb
  exact h pins s σ H _ _ v u Q I rx ry ⟨i, j, rfl, rfl, q _ H φ .rfl rs (by simp only [RepV])⟩
theorem zoM (v w z : PV) (h : binV .sub v w = some z) : ∃ i j, v = .int i /\ w = .int j /\ z = .int (i - j) := by
  unfold binV at h
  split at h <;> first | (cases h; done) | skip
  exact ⟨_, _, rfl, rfl, (Option.some.inj h).symm⟩
theorem zo8 (v w z : PV) (h : binV .mul v w = some z) : ∃ i j, v = .int i /\ w = .int j /\ CMul i j /\ z = .int (i * j) := by
  unfold binV at h
  split at h <;> first | (cases h; done) | skip
  rename_i i j
  simp only [IC.binI] at h
  split at h
  · rename_i c
    refine ⟨i, j, rfl, rfl, ?_, (Option.some.inj h).symm⟩
    simp only [CMulB, Bool.or_eq_true, decide_eq_true_eq] at c
    unfold CMul
    rcases c with c | c
    · left; constructor <;> omega
    · right; constructor <;> omega
  · cases h
theorem zmB (v w z : PV) (h : binV .fdiv v w = some z) : ∃ i j, v = .int i /\ w = .int j /\ CDivB i j /\ z = .int (i / j) := by
  unfold binV at h
  split at h <;> first | (cases h; done) | skip
  rename_i i j
  simp only [IC.binI] at h
  split at h
  · rename_i c
    exact ⟨i, j, rfl, rfl, c, (Option.some.inj h).symm⟩
  · cases h
theorem zo4 (v w z : PV) (h : binV .mod v w = some z) : ∃ i j, v = .int i /\ w = .int j /\ 0 < j /\ z = .int (i % j) := by
  unfold binV at h
  split at h <;> first | (cases h; done) | skip
  rename_i i j
  simp only [IC.binI] at h
  split at h
  · rename_i c
    exact ⟨i, j, rfl, rfl, c, (Option.some.inj h).symm⟩
  · cases h
theorem zoS (v w z : PV) (h : binV .pow v w = some z) : ∃ i j, v = .int i /\ w = .int j /\ CPow i j /\ z = .int (i ^ j.toNat) := by
  unfold binV at h
  split at h <;> first | (cases h; done) | skip
  rename_i i j
  simp only [IC.binI] at h
  split at h
  · rename_i c
    exact ⟨i, j, rfl, rfl, ⟨c.1, c.2.1, by have := c.2.2; omega⟩, (Option.some.inj h).symm⟩
  · cases h
theorem zmW (v w z : PV) (h : binV .band v w = some z) : ∃ i j, v = .int i /\ w = .int j /\ z = .int (Builtin.bitAnd i j) := by
  unfold binV at h
  split at h <;> first | (cases h; done) | skip
  exact ⟨_, _, rfl, rfl, (Option.some.inj h).symm⟩
theorem zor (v w z : PV) (h : binV .bor v w = some z) : ∃ i j, v = .int i /\ w = .int j /\ z = .int (Builtin.bitOr i j) := by
  unfold binV at h
  split at h <;> first | (cases h; done) | skip
  exact ⟨_, _, rfl, rfl, (Option.some.inj h).symm⟩
theorem zmQ (v w z : PV) (h : binV .bxor v w = some z) : ∃ i j, v = .int i /\ w = .int j /\ z = .int (Builtin.bitXor i j) := by
  unfold binV at h
  split at h <;> first | (cases h; done) | skip
  exact ⟨_, _, rfl, rfl, (Option.some.inj h).symm⟩
theorem zcs : OpR X (binaryOp .Sub) (rT2 S X (binV .sub)) := zfF zpO zoM
theorem zae : OpR X (binaryOp .Mult) (rT2 S X (binV .mul)) := zhs zpd zo8
theorem zbL : OpR X (binaryOp .FloorDiv) (rT2 S X (binV .fdiv)) := zhs zny zmB
theorem zcz : OpR X (binaryOp .Mod) (rT2 S X (binV .mod)) := zhs zpl zo4
theorem zlI : OpR X (binaryOp .Pow) (rT2 S X (binV .pow)) := zhs zpB zoS
theorem zoH : OpR X (binaryOp .BitAnd) (rT2 S X (binV .band)) := zfF zqh zmW
theorem zp3 : OpR X (binaryOp .BitOr) (rT2 S X (binV .bor)) := zfF zql zor
theorem zol : OpR X (binaryOp .BitXor) (rT2 S X (binV .bxor)) := zfF zpV zmQ
theorem za5 : sizeMax = sizeLine := by rw [sizeLine_eq]; rfl
theorem z6 : OpR X (binaryOp .Add) (rT2 S X (binV .add)) := by
  rintro pins s σ H x y v u Q I rx ry ⟨B, φ, st, a, b, z, rs, ra, rb, e, q⟩
  unfold binV at e
  split at e
  · rename_i i j
    simp only [RepV] at ra rb
    subst ra rb
    cases e
    exact zqi pins s σ H _ _ v u Q I rx ry ⟨i, j, rfl, rfl, q _ H φ .rfl rs (by simp only [RepV])⟩
  · rename_i i k
    simp only [RepV] at ra rb
    subst ra rb
    cases e
    exact zlY pins s σ H _ _ v u Q I rx ry ⟨i, k, rfl, rfl, q _ H φ .rfl rs (by simp only [RepV]; cases k <;> rfl)⟩
  · rename_i i j
    simp only [RepV] at ra rb
    subst ra rb
    dsimp only at e
    split at e
    · rename_i c
      cases e
      exact zjY pins s σ H _ _ v u Q I rx ry ⟨i, j, rfl, rfl, by rw [<- za5]; exact c, q _ H φ .rfl rs (by simp only [RepV])⟩
    · cases e
  · rename_i k1 vs k2 ws
    simp only [RepV] at ra rb
    obtain ⟨p, xs, rfl, r1, l1⟩ := ra
    obtain ⟨p', ys, rfl, r2, l2⟩ := rb
    dsimp only at e
    split at e
    · rename_i c
      cases e
      have n1 := l1.length
      have n2 := l2.length
      refine zoP pins s σ H _ _ v u Q I rx ry ⟨p, p', xs, ys, rfl, rfl, r1.sq, r2.sq, ?_, by rw [<- za5]; omega, fun z => ?_, fun _ t ht => ?_⟩
      · rintro rfl
        cases vs with
        | nil => exact absurd c.2.1 (by simp)
        | cons _ _ => simp at n1
      · subst z
        cases ws with
        | nil => exact absurd c.2.2 (by simp)
        | cons _ _ => simp at n2
      · exact q _ _ φ (.upd ht) (rs.upd ht) (.tup_new ht rs (l1.append l2))
    · cases e
  · rename_i vs ws
    simp only [RepV] at ra rb
    obtain ⟨p, xs, rfl, r1, l1⟩ := ra
    obtain ⟨p', ys, rfl, r2, l2⟩ := rb
    dsimp only at e
    split at e
    · rename_i c
      cases e
      have n1 := l1.length
      have n2 := l2.length
      exact zps pins s σ H _ _ v u Q I rx ry ⟨p, p', xs, ys, rfl, rfl, r1.1, r2.1, by rw [<- za5]; omega, fun t ht => q _ _ φ (.upd ht) (rs.upd ht) (.lst_new ht rs (l1.append l2))⟩
    · cases e
  · cases e
end
end L2
namespace L2
open PySem PySem.Spec PyProof.Rows IC
mutual
def toD : PV -> PyData
  | .non => .none
  | .bl b => .bool b
  | .int i => .int i
  | .str x => .str x
  | .tp _ xs => .tuple (toDs xs)
  | .lst xs => .list (toDs xs)
  | _ => .none
def toDs : List PV -> List PyData
  | [] => []
  | x :: xs => toD x :: toDs xs
end
mutual
theorem zl9 : ∀ (v : PV) (n : Nat), shd n v = true -> (toD v).canLay0 = true /\ (toD v).depth <= n
  | .non, n, h => by simp [toD, PyData.canLay0, PyData.depth]
  | .bl b, n, h => by simp [toD, PyData.canLay0, PyData.depth]
  | .int i, n, h => by simp [toD, PyData.canLay0, PyData.depth]
  | .str x, n, h => by
    simp only [shd] at h
    simp only [toD, PyData.canLay0, PyData.depth, Nat.zero_le, and_true]
    exact h
  | .tp _ xs, n, h => by
    simp only [shd, Bool.and_eq_true, decide_eq_true_eq] at h
    obtain ⟨q1, q2⟩ := zhy xs (n - 1) h.2
    simp only [toD, PyData.canLay0, PyData.depth]
    exact ⟨q1, by omega⟩
  | .lst xs, n, h => by
    simp only [shd, Bool.and_eq_true, decide_eq_true_eq] at h
    obtain ⟨q1, q2⟩ := zhy xs (n - 1) h.2
    simp only [toD, PyData.canLay0, PyData.depth]
    exact ⟨q1, by omega⟩
  | .loc k, n, h => by simp [shd] at h
  | .exn k, n, h => by simp [shd] at h
  | .scr xs, n, h => by simp [shd] at h
theorem zhy : ∀ (v : List PV) (n : Nat), shds n v = true -> PyData.canLayAll0 (toDs v) = true /\ PyData.depthAll (toDs v) <= n
  | [], n, h => by simp [toDs, PyData.canLayAll0, PyData.depthAll]
  | v :: vs, n, h => by
    simp only [shds, Bool.and_eq_true] at h
    obtain ⟨q1, q2⟩ := zl9 v n h.1
    obtain ⟨q3, q4⟩ := zhy vs n h.2
    simp only [toDs, PyData.canLayAll0, PyData.depthAll, Bool.and_eq_true]
    exact ⟨⟨q1, q3⟩, by omega⟩
end
theorem zdw {v : PV} (h : shp v = true) : SeqAt.shaped (toD v) = true := by
  obtain ⟨q1, q2⟩ := zl9 v 60 h
  unfold SeqAt.shaped
  rw [q1, Bool.true_and, decide_eq_true_eq]
  omega
mutual
theorem ziE : ∀ (v w : PV) (n m : Nat), shd n v = true -> shd m w = true -> PyData.eqv (toD v) (toD w) = peq v w
  | .non, w, n, m, h, q => by cases w <;> simp_all [toD, PyData.eqv, peq, shd]
  | .bl b, w, n, m, h, q => by cases w <;> simp_all [toD, PyData.eqv, peq, shd, bi]
  | .int i, w, n, m, h, q => by cases w <;> simp_all [toD, PyData.eqv, peq, shd, bi]
  | .str x, w, n, m, h, q => by cases w <;> simp_all [toD, PyData.eqv, peq, shd]
  | .tp _ xs, .tp _ ys, n, m, h, q => by
    simp only [shd, Bool.and_eq_true] at h q
    simp only [toD, PyData.eqv, peq]
    exact zhC xs ys (n - 1) (m - 1) h.2 q.2
  | .lst xs, .lst ys, n, m, h, q => by
    simp only [shd, Bool.and_eq_true] at h q
    simp only [toD, PyData.eqv, peq]
    exact zhC xs ys (n - 1) (m - 1) h.2 q.2
  | .tp _ xs, .non, n, m, h, q => by simp [toD, PyData.eqv, peq]
  | .tp _ xs, .bl _, n, m, h, q => by simp [toD, PyData.eqv, peq]
  | .tp _ xs, .int _, n, m, h, q => by simp [toD, PyData.eqv, peq]
  | .tp _ xs, .str _, n, m, h, q => by simp [toD, PyData.eqv, peq]
  | .tp _ xs, .lst _, n, m, h, q => by simp [toD, PyData.eqv, peq]
  | .lst xs, .non, n, m, h, q => by simp [toD, PyData.eqv, peq]
  | .lst xs, .bl _, n, m, h, q => by simp [toD, PyData.eqv, peq]
  | .lst xs, .int _, n, m, h, q => by simp [toD, PyData.eqv, peq]
  | .lst xs, .str _, n, m, h, q => by simp [toD, PyData.eqv, peq]
  | .lst xs, .tp _ _, n, m, h, q => by simp [toD, PyData.eqv, peq]
  | .loc k, w, n, m, h, q => by simp [shd] at h
  | .exn k, w, n, m, h, q => by simp [shd] at h
  | .scr k, w, n, m, h, q => by simp [shd] at h
  | v, .loc k, n, m, h, q => by simp [shd] at q
  | v, .exn k, n, m, h, q => by simp [shd] at q
  | v, .scr k, n, m, h, q => by simp [shd] at q
theorem zhC : ∀ (v w : List PV) (n m : Nat), shds n v = true -> shds m w = true -> PyData.eqvAll (toDs v) (toDs w) = peqs v w
  | [], [], n, m, h, q => by simp [toDs, PyData.eqvAll, peqs]
  | [], y :: ys, n, m, h, q => by simp [toDs, PyData.eqvAll, peqs]
  | x :: xs, [], n, m, h, q => by simp [toDs, PyData.eqvAll, peqs]
  | x :: xs, y :: ys, n, m, h, q => by
    simp only [shds, Bool.and_eq_true] at h q
    simp only [toDs, PyData.eqvAll, peqs]
    rw [ziE x y n m h.1 q.1, zhC xs ys n m h.2 q.2]
end
section
variable {S : Se} {X : Cx} {σ : St} {B : Addr -> Prop} {φ φ1 : Ph} {H H1 : Hp} {st : Store} {pins : List (Addr × Obj)} {s : Shared}
mutual
theorem zeg (I : Inv X pins σ H s) : ∀ (v : PV) (n : Nat) (x : V) (u : Value), shd n v = true -> RepV X.K S.cl B φ H v x -> RelV x u -> ∃ as, Reads s.heap u (toD v) as
  | .non, n, x, u, h, r, q => by
    simp only [RepV] at r; subst r; cases (show u = Value.none from q); exact ⟨_, .none⟩
  | .bl b, n, x, u, h, r, q => by
    simp only [RepV] at r; subst r; cases (show u = Value.bool b from q); exact ⟨_, .bool b⟩
  | .int i, n, x, u, h, r, q => by
    simp only [RepV] at r; subst r; obtain ⟨t, rfl⟩ := q; exact ⟨_, .int i t⟩
  | .str y, n, x, u, h, r, q => by
    simp only [RepV] at r; subst r; obtain ⟨t, rfl⟩ := q; exact ⟨_, .str y t⟩
  | .tp _ vs, n, x, u, h, r, q => by
    simp only [RepV] at r
    obtain ⟨a, xs, rfl, rt, l⟩ := r
    cases (show u = Value.ref a from q)
    simp only [shd, Bool.and_eq_true] at h
    obtain ⟨its, rv, ⟨o, g, c, k, d⟩, _⟩ := I.tuple rt.sq
    obtain ⟨as, z⟩ := zgm I vs (n - 1) xs its h.2 l rv
    exact ⟨as, .tuple g c d (by simpa using z)⟩
  | .lst vs, n, x, u, h, r, q => by
    simp only [RepV] at r
    obtain ⟨a, xs, rfl, rt, l⟩ := r
    cases (show u = Value.ref a from q)
    simp only [shd, Bool.and_eq_true] at h
    obtain ⟨its, rv, ⟨o, k, g, c, _, d⟩, _⟩ := I.list (rt.sq (K := X.K))
    obtain ⟨as, z⟩ := zgm I vs (n - 1) xs its h.2 l rv
    exact ⟨_, .list g c d (by simpa using z)⟩
  | .loc k, n, x, u, h, r, q => by simp [shd] at h
  | .exn k, n, x, u, h, r, q => by simp [shd] at h
  | .scr k, n, x, u, h, r, q => by simp [shd] at h
theorem zgm (I : Inv X pins σ H s) : ∀ (v : List PV) (n : Nat) (x : List V) (u : List Value), shds n v = true -> RepL X.K S.cl B φ H v x -> Vals x u -> ∃ as, ReadsAll s.heap u (toDs v) as
  | [], n, x, u, h, r, q => by
    simp only [RepL] at r; subst r; cases q; exact ⟨_, .nil⟩
  | v :: vs, n, x, u, h, r, q => by
    simp only [RepL] at r
    obtain ⟨y, ys, rfl, rv, l⟩ := r
    simp only [shds, Bool.and_eq_true] at h
    cases q with
    | cons q1 q2 =>
      obtain ⟨as, z1⟩ := zeg I v n y _ h.1 rv q1
      obtain ⟨bs, z2⟩ := zgm I vs n ys _ h.2 l q2
      exact ⟨_, .cons z1 z2⟩
end
theorem zaC (hu : X.A.units + 64 < cLine) : OpR X (compareOp .Eq) (rT2 S X (cmpV .eq)) := by
  rintro pins s σ H x y v u Q I rx ry ⟨B, φ, st, a, b, z, rs, ra, rb, e, q⟩
  simp only [cmpV] at e
  split at e
  · rename_i c
    rw [Bool.and_eq_true] at c
    cases e
    obtain ⟨as, z1⟩ := zeg (S := S) I a 60 x v c.1 ra rx
    obtain ⟨bs, z2⟩ := zeg (S := S) I b 60 y u c.2 rb ry
    refine eq_dataH z1 z2 (zdw c.1) (zdw c.2) hu ⟨.bl _, H, I, rfl, ?_⟩
    rw [ziE a b 60 60 c.1 c.2]
    exact q _ H φ .rfl rs (by simp only [RepV])
  · cases e
theorem zdX (hu : X.A.units + 64 < cLine) : OpR X (compareOp .NotEq) (rT2 S X (cmpV .ne)) := by
  rintro pins s σ H x y v u Q I rx ry ⟨B, φ, st, a, b, z, rs, ra, rb, e, q⟩
  simp only [cmpV] at e
  split at e
  · rename_i c
    rw [Bool.and_eq_true] at c
    cases e
    obtain ⟨as, z1⟩ := zeg (S := S) I a 60 x v c.1 ra rx
    obtain ⟨bs, z2⟩ := zeg (S := S) I b 60 y u c.2 rb ry
    refine ne_dataH z1 z2 (zdw c.1) (zdw c.2) hu ⟨.bl _, H, I, rfl, ?_⟩
    rw [ziE a b 60 60 c.1 c.2]
    exact q _ H φ .rfl rs (by simp only [RepV])
  · cases e
theorem zhz {f : Value -> Value -> Sem Value} {o : COp} {g : Int -> Int -> Bool} (h : OpR X f (rI0 fun i j => .bl (g i j)))
    (hb : ∀ v w z, cmpV o v w = some z -> ∃ i j, v = .int i /\ w = .int j /\ z = .bl (g i j)) : OpR X f (rT2 S X (cmpV o)) := by
  rintro pins s σ H x y v u Q I rx ry ⟨B, φ, st, a, b, z, rs, ra, rb, e, q⟩
  obtain ⟨i, j, rfl, rfl, rfl⟩ := hb a b z e
  simp only [RepV] at ra rb
  subst ra rb
  exact h pins s σ H _ _ v u Q I rx ry ⟨i, j, rfl, rfl, q _ H φ .rfl rs (by simp only [RepV])⟩
theorem zhv {o : COp} {g : Int -> Int -> Bool} (ho : ∀ v w, cmpV o v w = match v, w with
      | .int i, .int j => cmpI o i j
      | _, _ => none) (hg : ∀ i j, cmpI o i j = some (.bl (g i j))) (v w z : PV) (h : cmpV o v w = some z) : ∃ i j, v = .int i /\ w = .int j /\ z = .bl (g i j) := by
  rw [ho] at h
  split at h
  · rename_i i j
    rw [hg] at h
    exact ⟨i, j, rfl, rfl, (Option.some.inj h).symm⟩
  · cases h
theorem zfv : OpR X (compareOp .Lt) (rT2 S X (cmpV .lt)) := zhz zqv (zhv (fun _ _ => rfl) fun _ _ => rfl)
theorem zmE : OpR X (compareOp .LtE) (rT2 S X (cmpV .le)) := zhz zqx (zhv (fun _ _ => rfl) fun _ _ => rfl)
theorem zhQ : OpR X (compareOp .Gt) (rT2 S X (cmpV .gt)) := zhz zqu (zhv (fun _ _ => rfl) fun _ _ => rfl)
theorem zpP : OpR X (compareOp .GtE) (rT2 S X (cmpV .ge)) := zhz zqs (zhv (fun _ _ => rfl) fun _ _ => rfl)
theorem RepV.isNon {K : PySem.W.Frag} {cl : Nat -> Addr} {v : PV} {x : V} (r : RepV K cl B φ H v x) : decide (x = .non) = IC.isNon v := by
  cases v with
  | loc n => simp only [RepV] at r; obtain ⟨_, a, rfl, _⟩ := r; rfl
  | non => simp only [RepV] at r; subst r; rfl
  | bl b => simp only [RepV] at r; subst r; rfl
  | int b => simp only [RepV] at r; subst r; rfl
  | str b => simp only [RepV] at r; subst r; rfl
  | tp k vs => simp only [RepV] at r; obtain ⟨a, xs, rfl, _⟩ := r; rfl
  | lst vs => simp only [RepV] at r; obtain ⟨a, xs, rfl, _⟩ := r; rfl
  | exn vs => simp only [RepV] at r; obtain ⟨a, rfl, _⟩ := r; rfl
  | scr vs => simp only [RepV] at r; obtain ⟨a, xs, rfl, _⟩ := r; rfl
theorem zqj : OpR X (compareOp .Is) (rT2 S X (cmpV .is)) := by
  rintro pins s σ H x y v u Q I rx ry ⟨B, φ, st, a, b, z, rs, ra, rb, e, q⟩
  simp only [cmpV] at e
  split at e
  · cases e
    simp only [RepV] at rb
    exact zpW pins s σ H _ _ v u Q I rx ry ⟨rb, q _ H φ .rfl rs (by simp only [RepV]; rw [ra.isNon])⟩
  · cases e
theorem RepV.flat {K : PySem.W.Frag} {cl : Nat -> Addr} {v : PV} {x : V} (r : RepV K cl B φ H v x) (h : IC.flat v = true) : flatV x = true /\ ∀ (w : PV) (y : V), IC.flat w = true -> RepV K cl B φ H w y -> eqV x y = peq v w := by
  cases v with
  | non =>
    simp only [RepV] at r; subst r
    refine ⟨rfl, fun w y hw rw => ?_⟩
    cases w <;> first | (simp [IC.flat] at hw; done) | (simp only [RepV] at rw; subst rw; simp [eqV, peq, bi])
  | bl b =>
    simp only [RepV] at r; subst r
    refine ⟨rfl, fun w y hw rw => ?_⟩
    cases w <;> first | (simp [IC.flat] at hw; done) | (simp only [RepV] at rw; subst rw; simp [eqV, peq, bi])
  | int b =>
    simp only [RepV] at r; subst r
    refine ⟨rfl, fun w y hw rw => ?_⟩
    cases w <;> first | (simp [IC.flat] at hw; done) | (simp only [RepV] at rw; subst rw; simp [eqV, peq, bi])
  | str b =>
    simp only [RepV] at r; subst r
    refine ⟨rfl, fun w y hw rw => ?_⟩
    cases w <;> first | (simp [IC.flat] at hw; done) | (simp only [RepV] at rw; subst rw; simp [eqV, peq, bi])
  | _ => simp [IC.flat] at h
theorem zgg {K : PySem.W.Frag} {cl : Nat -> Addr} {v : PV} {x : V} (r : RepV K cl B φ H v x) (h : IC.flat v = true) : ∀ {vs : List PV} {xs : List V}, RepL K cl B φ H vs xs -> vs.all IC.flat = true -> xs.all flatV = true /\ inV x xs = inL v vs
  | [], xs, l, _ => by simp only [RepL] at l; subst l; exact ⟨rfl, rfl⟩
  | w :: vs, xs, l, f => by
    simp only [RepL] at l
    obtain ⟨y, ys, rfl, rw, l⟩ := l
    rw [List.all_cons, Bool.and_eq_true] at f
    obtain ⟨q1, q2⟩ := zgg r h l f.2
    obtain ⟨q3, q4⟩ := rw.flat f.1
    refine ⟨by rw [List.all_cons, q3, q1]; rfl, ?_⟩
    unfold inV at q2 ⊢
    rw [List.any_cons, q2, q4 v x h r]
    rfl
end
end L2
namespace L2
open PySem PySem.Spec PyProof.Rows IC
theorem zl4 (a b : Str) : (!(Builtin.Str.occurrences b a 0 b.length 1).isEmpty) = inS a b := by
  rw [Bool.eq_iff_iff, StrLaws.found_iff]
  unfold inS
  rw [List.any_eq_true]
  constructor
  · rintro ⟨i, h1, h2⟩
    exact ⟨i, by rw [List.mem_range]; omega, by rw [Bool.and_eq_true, decide_eq_true_eq]; exact ⟨h1, h2⟩⟩
  · rintro ⟨i, _, h⟩
    rw [Bool.and_eq_true, decide_eq_true_eq] at h
    exact ⟨i, h.1, h.2⟩
section
variable {S : Se} {X : Cx} {σ : St} {B : Addr -> Prop} {φ φ1 : Ph} {H H1 : Hp} {st : Store}
theorem zgF : OpR X (compareOp .In) (rT2 S X (cmpV .isin)) := by
  rintro pins s σ H x y v u Q I rx ry ⟨B, φ, st, a, b, z, rs, ra, rb, e, q⟩
  simp only [cmpV] at e
  split at e
  · rename_i i j
    simp only [RepV] at ra rb
    subst ra rb
    cases e
    exact zlC pins s σ H _ _ v u Q I rx ry ⟨i, j, rfl, rfl, by rw [zl4]; exact q _ H φ .rfl rs (by simp only [RepV])⟩
  · rename_i l
    split at e
    · rename_i c
      rw [Bool.and_eq_true] at c
      cases e
      simp only [RepV] at rb
      obtain ⟨p, xs, rfl, r, l'⟩ := rb
      obtain ⟨q1, q2⟩ := zgg ra c.1 l' c.2
      exact ziy pins s σ H _ _ v u Q I rx ry ⟨p, xs, rfl, .inr r.sq, (ra.flat c.1).1, q1, q _ H φ .rfl rs (by simp only [RepV]; rw [<- q2]; rfl)⟩
    · cases e
  · rename_i l
    split at e
    · rename_i c
      rw [Bool.and_eq_true] at c
      cases e
      simp only [RepV] at rb
      obtain ⟨p, xs, rfl, r, l'⟩ := rb
      obtain ⟨q1, q2⟩ := zgg ra c.1 l' c.2
      exact ziy pins s σ H _ _ v u Q I rx ry ⟨p, xs, rfl, .inl r.sq, (ra.flat c.1).1, q1, q _ H φ .rfl rs (by simp only [RepV]; rw [<- q2]; rfl)⟩
    · cases e
  · cases e
theorem zmA : OpR X (compareOp .NotIn) (rT2 S X (cmpV .notin)) := by
  rintro pins s σ H x y v u Q I rx ry ⟨B, φ, st, a, b, z, rs, ra, rb, e, q⟩
  simp only [cmpV] at e
  split at e
  · rename_i i j
    simp only [RepV] at ra rb
    subst ra rb
    cases e
    exact ziv pins s σ H _ _ v u Q I rx ry ⟨i, j, rfl, rfl, by rw [zl4]; exact q _ H φ .rfl rs (by simp only [RepV])⟩
  · rename_i l
    split at e
    · rename_i c
      rw [Bool.and_eq_true] at c
      cases e
      simp only [RepV] at rb
      obtain ⟨p, xs, rfl, r, l'⟩ := rb
      obtain ⟨q1, q2⟩ := zgg ra c.1 l' c.2
      exact zfb pins s σ H _ _ v u Q I rx ry ⟨p, xs, rfl, .inr r.sq, (ra.flat c.1).1, q1, q _ H φ .rfl rs (by simp only [RepV]; rw [<- q2]; rfl)⟩
    · cases e
  · rename_i l
    split at e
    · rename_i c
      rw [Bool.and_eq_true] at c
      cases e
      simp only [RepV] at rb
      obtain ⟨p, xs, rfl, r, l'⟩ := rb
      obtain ⟨q1, q2⟩ := zgg ra c.1 l' c.2
      exact zfb pins s σ H _ _ v u Q I rx ry ⟨p, xs, rfl, .inl r.sq, (ra.flat c.1).1, q1, q _ H φ .rfl rs (by simp only [RepV]; rw [<- q2]; rfl)⟩
    · cases e
  · cases e
theorem RepL.empty {K : PySem.W.Frag} {cl : Nat -> Addr} {vs : List PV} {xs : List V} (l : RepL K cl B φ H vs xs) : vs.isEmpty = xs.isEmpty := by
  have := l.length
  cases vs <;> cases xs <;> simp_all
theorem zoX {K : PySem.W.Frag} {cl : Nat -> Addr} {v : PV} {x : V} {k : Bool} (rs : RepS K cl B φ H st) (r : RepV K cl B φ H v x) (h : truV st v = some k) : TruV K x H k := by
  cases v with
  | non => simp only [RepV] at r; subst r; cases h; rfl
  | bl b => simp only [RepV] at r; subst r; cases h; rfl
  | int b => simp only [RepV] at r; subst r; cases h; rfl
  | str b =>
    simp only [RepV] at r; subst r
    simp only [truV] at h
    split at h
    · rename_i c
      cases h
      exact ⟨by rw [<- za5]; exact c, rfl⟩
    · cases h
  | tp k vs =>
    simp only [RepV] at r
    obtain ⟨a, xs, rfl, rt, l⟩ := r
    cases h
    exact .inr (.inl ⟨xs, rt.sq, by rw [l.empty]⟩)
  | lst vs =>
    simp only [RepV] at r
    obtain ⟨a, xs, rfl, rt, l⟩ := r
    cases h
    exact .inl ⟨xs, rt.sq, by rw [l.empty]⟩
  | loc n =>
    simp only [RepV] at r
    obtain ⟨hn, a, rfl, ha⟩ := r
    simp only [truV] at h
    split at h
    · rename_i vs hv
      cases h
      obtain ⟨b, hb⟩ := rs.liv n _ hv (by intro z; cases z)
      obtain rfl := ha b hb
      obtain ⟨o, ho, ro⟩ := rs.obj n b hb
      rw [hv] at ho; cases ho
      obtain ⟨xs, hx, l⟩ := ro
      exact .inl ⟨xs, .of hx, by rw [l.empty]⟩
    · cases h
  | exn c => cases h
  | scr c => cases h
end
end L2
namespace L2
open PySem PySem.Spec PyProof.Rows IC
theorem R.bind_assoc {α β γ : Type} {r : R α} {k : α -> Store -> R β} {l : β -> Store -> R γ} : (r.bind k).bind l = r.bind fun a s => (k a s).bind l := by
  cases r <;> rfl
section
variable {S : Se} {X : Cx} {σ : St} {B : Addr -> Prop} {φ φ1 : Ph} {H H1 : Hp} {st : Store} {ρ : IC.Env} {pos : Pos} {a b c d : Expr} {ca cb cc : Ce} {es : List Expr} {ces : Ces}
theorem zhA {o : COp} {v w z : PV} (h : cmpV o v w = some z) : ∃ k, z = .bl k := by
  cases o <;> simp only [cmpV] at h
  all_goals (repeat' split at h) <;> first | (cases h; done) | (cases h; exact ⟨_, rfl⟩) | skip
  all_goals (simp only [cmpI] at h; cases h; exact ⟨_, rfl⟩)
theorem zx {op : CmpOp} {o : COp} (ho : OpR X (compareOp op) (rT2 S X (cmpV o))) (ha : PE X a (tE S X ca)) (hb : PE X b (tE S X cb)) (hm : behindInMarks op b = false) : PT X (.Compare a [op] [b] pos) (tTs S X (.cmp o ca cb)) :=
  (zoj ho ha hb hm).imp fun σ H Q ⟨B, φ, st, ρ, rs, re, h⟩ => by
    simp only [ev, truR, R.bind_assoc] at h
    refine tE.bind rs re h fun x H1 v st1 φ1 s1 rs1 re1 rv h1 => tE.bind rs1 re1 h1 fun y H2 w st2 φ2 s2 rs2 re2 rw h2 => ?_
    cases e : cmpV o v w with
    | none => rw [e] at h2; exact h2.elim
    | some z =>
      obtain ⟨k, rfl⟩ := zhA e
      rw [e] at h2
      refine ⟨B, φ2, st2, v, w, .bl k, rs2, rv.step s2, rw, e, fun z' H' φ' s' rs' rz => ?_⟩
      simp only [RepV] at rz
      exact ⟨k, rz, h2 k H' φ' s' rs' rfl⟩
theorem zaN (ha : PE X a (tE S X ca)) (he : ∀ whole, isTrue a X.env whole = (do let v <- whole; standAt a.pos; holding [v] (truthy v)) := by intro _; rfl) : PT X a (tTs S X ca) :=
  (zni ha he).imp fun σ H Q ⟨B, φ, st, ρ, rs, re, h⟩ => by
    simp only [truR] at h
    refine tE.bind rs re h fun x H1 v st1 φ1 s1 rs1 re1 rv h1 => ?_
    cases e : truV st1 v with
    | none => rw [e] at h1; exact h1.elim
    | some k =>
      rw [e] at h1
      exact ⟨k, zoX rs1 rv e, h1.ok rs1 rfl⟩
theorem tTs.bind {γ δ : Type} {Rel2 : Ph -> Hp -> γ -> δ -> Prop} {k : Bool -> Store -> R γ} {Q : δ -> Hp -> Prop} {P : Bool -> Hp -> Prop} (rs : RepS X.K S.cl B φ H st) (re : RepE X.K S.cl B φ H ρ σ) (h : Run S X σ B φ H Rel2 ((truR (ev S.call ρ st ca)).bind k) Q)
    (n : ∀ b H1 st1 φ1, Step φ H φ1 H1 -> RepS X.K S.cl B φ1 H1 st1 -> RepE X.K S.cl B φ1 H1 ρ σ -> Run S X σ B φ1 H1 Rel2 (k b st1) Q -> P b H1) : tTs S X ca σ H P :=
  ⟨B, φ, st, ρ, rs, re, (Run.bind h).mono fun x H1 ⟨v, st1, φ1, s, rs1, rv, h1⟩ => by
    subst rv
    exact n v H1 st1 φ1 s rs1 (re.step s) h1⟩
theorem zjg (r : R PV) (f : Bool -> Store -> R PV) : truR (r.bind fun x st1 => onBl x fun b => f b st1) = r.bind fun x st1 => onBl x fun b => truR (f b st1) := by
  unfold truR
  rw [R.bind_assoc]
  congr 1
  funext x st1
  cases x <;> rfl
theorem Run.bl_tru {r : R PV} {k : Bool -> Store -> R Bool} {Q : Bool -> Hp -> Prop} (h : Run S X σ B φ H RB (r.bind fun x st1 => onBl x fun b => k b st1) Q) : Run S X σ B φ H RB ((truR r).bind k) Q := by
  cases r with
  | bad => exact h
  | exc c s => exact h
  | ok v s =>
    cases v with
    | bl b => exact h
    | _ => exact h.elim
theorem zba (ha : PT X a (tTs S X ca)) : PT X (.UnaryOp .Not a pos) (tTs S X (.not ca)) :=
  (zpS ha).imp fun σ H Q ⟨B, φ, st, ρ, rs, re, h⟩ => by
    simp only [ev] at h
    rw [zjg _ fun k st1 => .ok (.bl (!k)) st1] at h
    exact tTs.bind rs re (Run.bl_tru (k := fun b st1 => .ok (!b) st1) h) fun b H1 st1 φ1 s1 rs1 re1 h1 => h1.ok rs1 rfl
variable {rest : List Expr}
theorem zeL (ha : PT X a (tTs S X ca)) : PW X (.BoolOp .And [a] pos) (tTs S X ca) := zoW ha
theorem zbz (ha : PT X a (tTs S X ca)) : PW X (.BoolOp .Or [a] pos) (tTs S X ca) := zqe ha
theorem zg3 (ha : PT X a (tTs S X ca)) (hb : PW X (.BoolOp .And (b :: rest) pos) (tTs S X cb)) : PW X (.BoolOp .And (a :: b :: rest) pos) (tTs S X (.and ca cb)) :=
  (zpt ha hb).imp fun σ H Q ⟨B, φ, st, ρ, rs, re, h⟩ => by
    simp only [ev] at h
    rw [zjg _ fun k st1 => cond k (ev S.call ρ st1 cb) (.ok (.bl false) st1)] at h
    refine tTs.bind rs re (Run.bl_tru h) fun k H1 st1 φ1 s1 rs1 re1 h1 => ?_
    cases k with
    | false => exact h1.ok rs1 rfl
    | true => exact ⟨B, φ1, st1, ρ, rs1, re1, h1⟩
theorem zbF (ha : PT X a (tTs S X ca)) (hb : PW X (.BoolOp .Or (b :: rest) pos) (tTs S X cb)) : PW X (.BoolOp .Or (a :: b :: rest) pos) (tTs S X (.or ca cb)) :=
  (zqt ha hb).imp fun σ H Q ⟨B, φ, st, ρ, rs, re, h⟩ => by
    simp only [ev] at h
    rw [zjg _ fun k st1 => cond k (.ok (.bl true) st1) (ev S.call ρ st1 cb)] at h
    refine tTs.bind rs re (Run.bl_tru h) fun k H1 st1 φ1 s1 rs1 re1 h1 => ?_
    cases k with
    | true => exact h1.ok rs1 rfl
    | false => exact ⟨B, φ1, st1, ρ, rs1, re1, h1⟩
theorem zcx {op : BoolOp} (h : PE X a (tE S X ca)) : PE X (.BoolOp op [a] pos) (tE S X ca) := zpb h
theorem zbZ (ha : PE X a (tE S X ca)) (hb : PE X (.BoolOp .And (b :: rest) pos) (tE S X cb)) : PE X (.BoolOp .And (a :: b :: rest) pos) (tE S X (.and ca cb)) :=
  (zpM ha hb).imp fun σ H Q ⟨B, φ, st, ρ, rs, re, h⟩ => by
    simp only [ev] at h
    refine tE.bind rs re h fun x H1 v st1 φ1 s1 rs1 re1 rv h1 => ?_
    cases v with
    | bl k =>
      simp only [RepV] at rv
      refine ⟨k, rv, ?_⟩
      cases k with
      | true => exact ⟨B, φ1, st1, ρ, rs1, re1, h1⟩
      | false => exact h1.ok rs1 (by simp only [RepV])
    | _ => exact h1.elim
theorem zon (ha : PE X a (tE S X ca)) (hb : PE X (.BoolOp .Or (b :: rest) pos) (tE S X cb)) : PE X (.BoolOp .Or (a :: b :: rest) pos) (tE S X (.or ca cb)) :=
  (zqk ha hb).imp fun σ H Q ⟨B, φ, st, ρ, rs, re, h⟩ => by
    simp only [ev] at h
    refine tE.bind rs re h fun x H1 v st1 φ1 s1 rs1 re1 rv h1 => ?_
    cases v with
    | bl k =>
      simp only [RepV] at rv
      refine ⟨k, rv, ?_⟩
      cases k with
      | false => exact ⟨B, φ1, st1, ρ, rs1, re1, h1⟩
      | true => exact h1.ok rs1 (by simp only [RepV])
    | _ => exact h1.elim
theorem zo9 (ha : PE X a (tE S X ca)) : PE X (.UnaryOp .Not a pos) (tE S X (.not ca)) :=
  (zpE ha).imp fun σ H Q ⟨B, φ, st, ρ, rs, re, h⟩ => by
    simp only [ev] at h
    refine tE.bind rs re h fun x H1 v st1 φ1 s1 rs1 re1 rv h1 => ?_
    cases v with
    | bl k =>
      simp only [RepV] at rv
      exact ⟨k, rv, h1.ok rs1 (by simp only [RepV])⟩
    | _ => exact h1.elim
theorem zfj (ha : PE X a (tE S X ca)) : PE X (.UnaryOp .USub a pos) (tE S X (.neg ca)) :=
  (zpm znH ha).imp fun σ H Q ⟨B, φ, st, ρ, rs, re, h⟩ => by
    simp only [ev] at h
    refine tE.bind rs re h fun x H1 v st1 φ1 s1 rs1 re1 rv h1 => ?_
    split at h1
    · simp only [RepV] at rv
      exact ⟨_, rv, h1.ok rs1 (by simp only [RepV])⟩
    · exact h1.elim
theorem zd : PA X [] (tAs S X .nil) := pa_nil.imp fun σ H Q ⟨B, φ, st, ρ, rs, re, h⟩ => by
  simp only [evs] at h
  exact h.ok rs (by simp only [RepL])
theorem za (ha : PE X a (tE S X ca)) (hr : PA X es (tAs S X ces)) (hs : starEach (a :: es) X.env = (false, eval a X.env) :: starEach es X.env := by rfl) : PA X (a :: es) (tAs S X (.cons ca ces)) :=
  (zdf ha hr hs).imp fun σ H Q ⟨B, φ, st, ρ, rs, re, h⟩ => by
    simp only [evs] at h
    refine tE.bind rs re h fun x H1 v st1 φ1 s1 rs1 re1 rv h1 => tAs.bind rs1 re1 h1 fun xs H2 vs st2 φ2 s2 rs2 re2 rvs h2 => ?_
    refine h2.ok rs2 ?_
    simp only [RepL]
    exact ⟨x, xs, rfl, rv.step s2, rvs⟩
theorem zw {k : Nat} (h : PA X es (tAs S X ces)) : PE X (.Tuple es k pos) (tE S X (.tup ces)) :=
  (zp5 h).imp fun σ H Q ⟨B, φ, st, ρ, rs, re, h⟩ => by
    simp only [ev] at h
    refine tAs.bind rs re h fun xs H1 vs st1 φ1 s1 rs1 re1 rv h1 => ?_
    split at h1
    · rename_i c
      refine ⟨by rw [<- za5, <- rv.length]; exact c, fun p hp => h1 _ _ φ1 (.upd hp) (rs1.upd hp) (.tup_new hp rs1 rv)⟩
    · exact h1.elim
theorem zdP (h : PA X es (tAs S X ces)) : PE X (.List es pos) (tE S X (.lst ces)) :=
  (znI h).imp fun σ H Q ⟨B, φ, st, ρ, rs, re, h⟩ => by
    simp only [ev] at h
    refine tAs.bind rs re h fun xs H1 vs st1 φ1 s1 rs1 re1 rv h1 => ?_
    split at h1
    · rename_i c
      refine ⟨by rw [<- za5, <- rv.length]; exact c, fun p hp => h1 _ _ φ1 (.upd hp) (rs1.upd hp) (.lst_new hp rs1 rv)⟩
    · exact h1.elim
theorem Step.push {p : Addr} {o : HO} (hp : H p = none) : Step φ H (φ ++ [some p]) (L2.upd H p o) := by
  refine ⟨fun b u n e => by rw [zV (z7 e hp)]; exact e, by simp, fun n a hn e => ?_, fun b h => ?_⟩
  · rw [List.getElem?_append_left hn] at e
    exact e
  · rw [List.mem_append] at h
    rcases h with h | h
    · exact .inl h
    · have : b = p := by simpa using h
      subst this
      exact .inr hp
theorem RepS.push {K : PySem.W.Frag} {cl : Nat -> Addr} {p : Addr} {u : HO} {o : Ob} (rs : RepS K cl B φ H st) (hp : H p = none) (hb : ¬ B p) (ho : RepO K cl B (φ ++ [some p]) (L2.upd H p u) o p) : RepS K cl B (φ ++ [some p]) (L2.upd H p u) (st ++ [o]) := by
  have s : Step φ H (φ ++ [some p]) (L2.upd H p u) := .push hp
  have np : some p ∉ φ := fun z => by
    obtain ⟨w, e⟩ := rs.there z
    rw [hp] at e; cases e
  have hl : φ.length = st.length := rs.len
  refine ⟨by simp [hl], fun m n a e1 e2 => ?_, fun n a e => ?_, fun n o' e ho' => ?_, fun a h => ?_, fun a h => ?_⟩
  · by_cases hm : m < φ.length
    · rw [List.getElem?_append_left hm] at e1
      by_cases hn : n < φ.length
      · rw [List.getElem?_append_left hn] at e2
        exact rs.inj m n a e1 e2
      · rw [List.getElem?_append_right (by omega)] at e2
        have : a = p := by
          cases q : n - φ.length with
          | zero => rw [q] at e2; simpa using e2.symm
          | succ k => rw [q] at e2; simp at e2
        subst this
        exact absurd (List.mem_of_getElem? e1) np
    · rw [List.getElem?_append_right (by omega)] at e1
      have : m - φ.length = 0 /\ a = p := by
        cases q : m - φ.length with
        | zero => rw [q] at e1; exact ⟨rfl, by simpa using e1.symm⟩
        | succ k => rw [q] at e1; simp at e1
      obtain ⟨q1, rfl⟩ := this
      by_cases hn : n < φ.length
      · rw [List.getElem?_append_left hn] at e2
        exact absurd (List.mem_of_getElem? e2) np
      · rw [List.getElem?_append_right (by omega)] at e2
        have : n - φ.length = 0 := by
          cases q : n - φ.length with
          | zero => rfl
          | succ k => rw [q] at e2; simp at e2
        omega
  · by_cases hn : n < φ.length
    · rw [List.getElem?_append_left hn] at e
      obtain ⟨o', q, r⟩ := rs.obj n a e
      refine ⟨o', by rw [List.getElem?_append_left (by omega)]; exact q, r.step s ?_⟩
      rw [zV]
      rintro rfl
      exact np (List.mem_of_getElem? e)
    · rw [List.getElem?_append_right (by omega)] at e
      have : n - φ.length = 0 /\ a = p := by
        cases q : n - φ.length with
        | zero => rw [q] at e; exact ⟨rfl, by simpa using e.symm⟩
        | succ k => rw [q] at e; simp at e
      obtain ⟨q1, rfl⟩ := this
      refine ⟨o, ?_, ho⟩
      rw [List.getElem?_append_right (by omega)]
      have : n - st.length = 0 := by omega
      rw [this]; rfl
  · by_cases hn : n < φ.length
    · rw [List.getElem?_append_left (by omega)] at e
      obtain ⟨a, q⟩ := rs.liv n o' e ho'
      exact ⟨a, by rw [List.getElem?_append_left hn]; exact q⟩
    · rw [List.getElem?_append_right (by omega)] at e
      have : n - st.length = 0 := by
        cases q : n - st.length with
        | zero => rfl
        | succ k => rw [q] at e; simp at e
      refine ⟨p, ?_⟩
      rw [List.getElem?_append_right (by omega)]
      have : n - φ.length = 0 := by omega
      rw [this]; rfl
  · rw [List.mem_append] at h
    rcases h with h | h
    · exact rs.nb a h
    · have : a = p := by simpa using h
      subst this
      exact hb
  · obtain ⟨w, e⟩ := rs.dom a h
    exact ⟨w, by rw [zV (z7 e hp)]; exact e⟩
theorem RepS.nB {K : PySem.W.Frag} {cl : Nat -> Addr} {p : Addr} (rs : RepS K cl B φ H st) (hp : H p = none) : ¬ B p := fun z => by
  obtain ⟨o, e⟩ := rs.dom p z
  rw [hp] at e; cases e
theorem RepV.loc_new {K : PySem.W.Frag} {cl : Nat -> Addr} {p : Addr} (rs : RepS K cl B φ H st) : RepV K cl B (φ ++ [some p]) H1 (.loc st.length) (.ref p) := by
  simp only [RepV]
  have hl := rs.len
  refine ⟨by simp [hl], p, rfl, fun b e => ?_⟩
  rw [List.getElem?_append_right (by omega)] at e
  have : st.length - φ.length = 0 := by omega
  rw [this] at e
  simpa using e.symm
theorem zht (h : PA X es (tAs S X ces)) : PE X (.List es pos) (tE S X (.newl ces)) :=
  (znI h).imp fun σ H Q ⟨B, φ, st, ρ, rs, re, h⟩ => by
    simp only [ev] at h
    refine tAs.bind rs re h fun xs H1 vs st1 φ1 s1 rs1 re1 rv h1 => ?_
    split at h1
    · rename_i c
      refine ⟨by rw [<- za5, <- rv.length]; exact c, fun p hp => h1 _ _ (φ1 ++ [some p]) (.push hp) (rs1.push hp (rs1.nB hp) ⟨xs, zar, rv.step (.push hp)⟩) (.loc_new rs1)⟩
    · exact h1.elim
end
end L2
namespace L2
open PySem PySem.Spec PyProof.Rows IC
section
variable {S : Se} {X : Cx} {σ : St} {B : Addr -> Prop} {φ φ1 : Ph} {H H1 : Hp} {st : Store} {ρ : IC.Env} {pos p2 : Pos} {a b c d : Expr} {ca cb cc : Ce} {es : List Expr} {ces : Ces} {K : PySem.W.Frag} {cl : Nat -> Addr}
theorem zml {o : COp} {v w : PV} {α β : Type} {Rel : Ph -> Hp -> α -> β -> Prop} {k : Bool -> R α} {Q : β -> Hp -> Prop} (h : Run S X σ B φ H Rel (onO (blO (cmpV o v w)) k) Q) : ∃ b, cmpV o v w = some (.bl b) /\ Run S X σ B φ H Rel (k b) Q := by
  cases e : cmpV o v w with
  | none => rw [e] at h; exact h.elim
  | some z =>
    obtain ⟨b, rfl⟩ := zhA e
    rw [e] at h
    exact ⟨b, rfl, h⟩
theorem zng {op op' : CmpOp} {o p : COp} (ho : OpR X (compareOp op) (rT2 S X (cmpV o))) (ho' : OpR X (compareOp op') (rT2 S X (cmpV p))) (ha : PE X a (tE S X ca)) (hb : PE X b (tE S X cb)) (hc : PE X c (tE S X cc))
    (hm : lastMarks [op, op'] [b, c] = false := by with_unfolding_all rfl) : PE X (.Compare a [op, op'] [b, c] pos) (tE S X (.chain o p ca cb cc)) :=
  (zmF ho ho' ha hb hc hm).imp fun σ H Q ⟨B, φ, st, ρ, rs, re, h⟩ => by
    simp only [ev] at h
    refine tE.bind rs re h fun x H1 v st1 φ1 s1 rs1 re1 rv h1 => tE.bind rs1 re1 h1 fun y H2 w st2 φ2 s2 rs2 re2 rw h2 => ?_
    obtain ⟨k, e, h2⟩ := zml h2
    refine ⟨B, φ2, st2, v, w, .bl k, rs2, rv.step s2, rw, e, fun z' H' φ' s' rs' rz => ?_⟩
    simp only [RepV] at rz
    refine ⟨k, rz, ?_⟩
    cases k with
    | false => exact h2 _ H' φ' s' rs' (by simp only [RepV])
    | true =>
      refine tE.bind rs' (re2.step s') (Run.on s' h2) fun z H3 v3 st3 φ3 s3 rs3 re3 rv3 h3 => ?_
      obtain ⟨q, eq, hq⟩ := zdm h3 rs3
      exact ⟨B, φ3, st3, w, v3, q, rs3, (rw.step s').step s3, rv3, eq, hq⟩
theorem zmT {op op' : CmpOp} {o p : COp} (ho : OpR X (compareOp op) (rT2 S X (cmpV o))) (ho' : OpR X (compareOp op') (rT2 S X (cmpV p))) (ha : PE X a (tE S X ca)) (hb : PE X b (tE S X cb)) (hc : PE X c (tE S X cc))
    (hm : lastMarks [op, op'] [b, c] = false := by with_unfolding_all rfl) : PT X (.Compare a [op, op'] [b, c] pos) (tTs S X (.chain o p ca cb cc)) :=
  (zmR ho ho' ha hb hc hm).imp fun σ H Q ⟨B, φ, st, ρ, rs, re, h⟩ => by
    simp only [ev, truR, R.bind_assoc] at h
    refine tE.bind rs re h fun x H1 v st1 φ1 s1 rs1 re1 rv h1 => tE.bind rs1 re1 h1 fun y H2 w st2 φ2 s2 rs2 re2 rw h2 => ?_
    have h2' : Run S X σ B φ2 H2 RB (onO (blO (cmpV o v w)) fun k => cond k ((ev S.call ρ st2 cc).bind fun z st3 => (toR (cmpV p w z) st3).bind fun x st => onO (truV st x) fun b => .ok b st) (.ok false st2)) Q := by
      cases e : cmpV o v w with
      | none => rw [e] at h2; exact h2
      | some z =>
        obtain ⟨b, rfl⟩ := zhA e
        rw [e] at h2
        cases b with
        | false => exact h2
        | true =>
          simp only [blO, onO, cond_true, R.bind_assoc] at h2 ⊢
          exact h2
    obtain ⟨k, e, h2⟩ := zml h2'
    refine ⟨B, φ2, st2, v, w, .bl k, rs2, rv.step s2, rw, e, fun z' H' φ' s' rs' rz => ?_⟩
    simp only [RepV] at rz
    refine ⟨k, rz, ?_⟩
    cases k with
    | false => exact ⟨false, rfl, h2 _ H' φ' s' rs' rfl⟩
    | true =>
      refine tE.bind rs' (re2.step s') (Run.on s' h2) fun z H3 v3 st3 φ3 s3 rs3 re3 rv3 h3 => ?_
      cases eq : cmpV p w v3 with
      | none => rw [eq] at h3; exact h3.elim
      | some q =>
        obtain ⟨b, rfl⟩ := zhA eq
        rw [eq] at h3
        refine ⟨B, φ3, st3, w, v3, .bl b, rs3, (rw.step s').step s3, rv3, eq, fun z2 H4 φ4 s4 rs4 rz4 => ?_⟩
        simp only [RepV] at rz4
        exact ⟨b, rz4, h3 b H4 φ4 s4 rs4 rfl⟩
theorem RepL.at {vs : List PV} {xs : List V} {i : Int} {v : PV} (l : RepL K cl B φ H vs xs) (h : at? vs i = some v) : ∃ x, atI xs i = some x /\ RepV K cl B φ H v x := by
  unfold at? at h
  rw [l.length] at h
  unfold atI
  cases e : ixI xs.length i with
  | none => rw [e] at h; cases h
  | some j =>
    rw [e] at h
    have e' : ixN xs.length i = some j := e
    rw [e']
    exact l.get j h
theorem RepS.list {n : Nat} {vs : List PV} {x : V} (rs : RepS K cl B φ H st) (r : RepV K cl B φ H (.loc n) x) (h : st[n]? = some (.lst vs)) : ∃ a xs, x = .ref a /\ φ[n]? = some (some a) /\ H a = some (.lst xs) /\ RepL K cl B φ H vs xs := by
  simp only [RepV] at r
  obtain ⟨hn, a, rfl, ha⟩ := r
  obtain ⟨b, hb⟩ := rs.liv n _ h (by intro z; cases z)
  obtain rfl := ha b hb
  obtain ⟨o, ho, ro⟩ := rs.obj n b hb
  rw [h] at ho; cases ho
  obtain ⟨xs, hx, l⟩ := ro
  exact ⟨b, xs, rfl, hb, hx, l⟩
def rTS (S : Se) (X : Cx) (f : Store -> PV -> PV -> Option PV) : R2 := fun x y H Q => ∃ B φ st v w z, RepS X.K S.cl B φ H st /\ RepV X.K S.cl B φ H v x /\ RepV X.K S.cl B φ H w y /\ f st v w = some z /\
  ∀ z' H' φ', Step φ H φ' H' -> RepS X.K S.cl B φ' H' st -> RepV X.K S.cl B φ' H' z z' -> Q z' H'
theorem zfG {α : Type} {xs : List α} {i : PV} {z : α} (h : idxI xs i = some z) : ∃ k, i = .int k /\ at? xs k = some z := by
  cases i with
  | int k => exact ⟨k, rfl, h⟩
  | _ => cases h
theorem zo7 : IxR X (rTS S X idxV) := by
  rintro value slice pins s σ H x y v u Q I rx ry ⟨B, φ, st, a, i, z, rs, ra, ri, e, q⟩ hs
  cases a with
  | tp k vs =>
    obtain ⟨k, rfl, e⟩ := zfG e
    simp only [RepV] at ra ri
    subst ri
    obtain ⟨p, xs, rfl, rt, l⟩ := ra
    obtain ⟨w, e1, rw⟩ := l.at e
    exact zjr value slice pins s σ H _ _ v u Q I rx ry (.inr (.inl ⟨p, xs, k, w, rfl, rfl, rt.sq, e1, q w H φ .rfl rs rw⟩)) hs
  | lst vs =>
    obtain ⟨k, rfl, e⟩ := zfG e
    simp only [RepV] at ra ri
    subst ri
    obtain ⟨p, xs, rfl, rt, l⟩ := ra
    obtain ⟨w, e1, rw⟩ := l.at e
    exact zjr value slice pins s σ H _ _ v u Q I rx ry (.inl ⟨p, xs, k, w, rfl, rfl, rt.sq, e1, q w H φ .rfl rs rw⟩) hs
  | loc n =>
    simp only [idxV] at e
    split at e
    · rename_i vs h1
      obtain ⟨k, rfl, e⟩ := zfG e
      simp only [RepV] at ri
      subst ri
      obtain ⟨p, xs, rfl, _, hx, l⟩ := rs.list ra h1
      obtain ⟨w, e1, rw⟩ := l.at e
      exact zjr value slice pins s σ H _ _ v u Q I rx ry (.inl ⟨p, xs, k, w, rfl, rfl, .of hx, e1, q w H φ .rfl rs rw⟩) hs
    · cases e
  | str t =>
    simp only [idxV] at e
    split at e
    · rename_i hl
      cases e1 : idxI t.cps.toList i with
      | none => rw [e1] at e; cases e
      | some c =>
        rw [e1] at e
        cases e
        obtain ⟨k, rfl, e1⟩ := zfG e1
        simp only [RepV] at ra ri
        subst ra ri
        exact zjr value slice pins s σ H _ _ v u Q I rx ry (.inr (.inr ⟨t, k, c, rfl, rfl, by rw [<- za5]; exact hl, e1, q _ H φ .rfl rs (by simp only [RepV])⟩)) hs
    · cases e
  | _ => cases e
theorem zj (ha : PE X a (tE S X ca)) (hb : PE X b (tE S X cb)) (hs : PlainIx b := by exact fun _ _ => rfl) : PE X (.Subscript a b pos) (tE S X (.idx ca cb)) :=
  (zqm zo7 ha hb hs).imp fun σ H Q ⟨B, φ, st, ρ, rs, re, h⟩ => by
    simp only [ev] at h
    refine tE.bind rs re h fun x H1 v st1 φ1 s1 rs1 re1 rv h1 => tE.bind rs1 re1 h1 fun y H2 w st2 φ2 s2 rs2 re2 rw h2 => ?_
    obtain ⟨z, e, q⟩ := zdm h2 rs2
    exact ⟨B, φ2, st2, v, w, z, rs2, rv.step s2, rw, e, q⟩
theorem RepL.cut {vs : List PV} {xs : List V} (lo hi : Option Int) (l : RepL K cl B φ H vs xs) : RepL K cl B φ H (IC.cut vs lo hi) (cutV xs lo hi) := by
  have e1 : ∀ n o, loOf n o = HT.sIx n 0 o := fun n o => by cases o <;> rfl
  have e2 : ∀ n o, hiOf n o = HT.sIx n n o := fun n o => by cases o <;> rfl
  unfold IC.cut cutV
  rw [l.length, e1, e2]
  exact (l.drop _).take _
def tO (S : Se) (X : Cx) (c : Ce) : TO := fun σ H Q => tE S X c σ H fun x H1 => (x = .non /\ Q none H1) \/ ∃ i, x = .int i /\ Q (some i) H1
theorem zhd : PO X none (tO S X (.cst .non)) := fun pins s σ H Q I h => by
  refine zoq pins s σ H Q I ?_
  obtain ⟨B, φ, st, ρ, rs, re, h⟩ := h
  simp only [ev] at h
  rcases h.ok rs (x := V.non) (by simp only [RepV]) with q | ⟨i, z, _⟩
  · exact q.2
  · cases z
theorem zhg (ha : PE X a (tE S X ca)) : PO X (some a) (tO S X ca) := by
  intro pins s σ H Q I hw
  rw [evalPart_some]
  refine thn (ha pins s σ H _ I hw) fun u s1 ⟨x, H1, I1, r1, q1⟩ => ?_
  rcases q1 with ⟨rfl, q⟩ | ⟨i, rfl, q⟩
  · cases r1
    exact ⟨none, H1, I1, .none, q⟩
  · obtain ⟨t, rfl⟩ := r1
    exact ⟨some i, H1, I1, .int i t, q⟩
def rSl (S : Se) (X : Cx) : V -> Option Int -> Option Int -> Hp -> VK -> Prop := fun x lo hi H Q => ∃ B φ st v z, RepS X.K S.cl B φ H st /\ RepV X.K S.cl B φ H v x /\ slcO v lo hi = some z /\
  ∀ z' H' φ', Step φ H φ' H' -> RepS X.K S.cl B φ' H' st -> RepV X.K S.cl B φ' H' z z' -> Q z' H'
theorem zox : SlR X (rSl S X) := by
  rintro pins s σ H x v vl vu lo hi sl Q I rx hs pl pu ⟨B, φ, st, w, z, rs, rw, e, q⟩
  have e1 : ∀ n o, loOf n o = HT.sIx n 0 o := fun n o => by cases o <;> rfl
  have e2 : ∀ n o, hiOf n o = HT.sIx n n o := fun n o => by cases o <;> rfl
  cases w with
  | tp k vs =>
    simp only [slcO] at e
    split at e
    · cases e
    · rename_i c
      cases e
      simp only [RepV] at rw
      obtain ⟨p, xs, rfl, rt, l⟩ := rw
      refine zpg pins s σ H _ v vl vu lo hi sl Q I rx hs pl pu ⟨p, xs, rfl, rt.sq, ?_, fun t ht => q _ _ φ (.upd ht) (rs.upd ht) (.tup_new ht rs (l.cut lo hi))⟩
      rw [l.length, e1, e2] at c
      exact c
  | lst vs =>
    simp only [slcO] at e
    cases e
    simp only [RepV] at rw
    obtain ⟨p, xs, rfl, rt, l⟩ := rw
    exact zlc pins s σ H _ v vl vu lo hi sl Q I rx hs pl pu ⟨p, xs, rfl, rt.sq, fun t ht => q _ _ φ (.upd ht) (rs.upd ht) (.lst_new ht rs (l.cut lo hi))⟩
  | scr vs =>
    simp only [slcO] at e
    cases e
    simp only [RepV] at rw
    obtain ⟨p, xs, rfl, rt, l⟩ := rw
    exact zlc pins s σ H _ v vl vu lo hi sl Q I rx hs pl pu ⟨p, xs, rfl, (by rcases rt with rt | rt; exact .inl rt.1; exact .inr rt), fun t ht => q _ _ φ (.upd ht) (rs.upd ht) (.lst_new ht rs (l.cut lo hi))⟩
  | _ => cases e
theorem zjQ {lo hi : Option Expr} (ha : PE X a (tE S X ca)) (hl : PO X lo (tO S X cb)) (hh : PO X hi (tO S X cc)) : PE X (.Subscript a (.Slice lo hi none p2) pos) (tE S X (.slc ca cb cc)) :=
  (zm7 zox ha hl hh).imp fun σ H Q ⟨B, φ, st, ρ, rs, re, h⟩ => by
    simp only [ev] at h
    have oi : ∀ {v : PV} {x : V} {o : Option Int} {B φ H}, RepV X.K S.cl B φ H v x -> optI v = some o -> (x = .non /\ o = none) \/ ∃ i, x = .int i /\ o = some i := fun {v x o B φ H} r e => by
      cases v with
      | non => simp only [RepV] at r; cases e; exact .inl ⟨r, rfl⟩
      | int i => simp only [RepV] at r; cases e; exact .inr ⟨i, r, rfl⟩
      | _ => cases e
    refine tE.bind rs re h fun x H1 v st1 φ1 s1 rs1 re1 rv h1 => tE.bind rs1 re1 h1 fun y H2 w st2 φ2 s2 rs2 re2 rw h2 => ?_
    cases eo : optI w with
    | none => rw [eo] at h2; exact h2.elim
    | some o1 =>
      rw [eo] at h2
      have key : tO S X cc σ H2 fun u H3 => rSl S X x o1 u H3 Q := by
        refine tE.bind rs2 re2 h2 fun y' H3 w' st3 φ3 s3 rs3 re3 rw' h3 => ?_
        obtain ⟨z, e, q⟩ := zdm h3 rs3
        unfold slcV at e
        cases eo' : optI w' with
        | none => rw [eo'] at e; cases e
        | some o2 =>
          rw [eo'] at e
          have fin : rSl S X x o1 o2 H3 Q := ⟨B, φ3, st3, v, z, rs3, (rv.step s2).step s3, e, q⟩
          rcases oi rw' eo' with ⟨rfl, rfl⟩ | ⟨i, rfl, rfl⟩
          · exact .inl ⟨rfl, fin⟩
          · exact .inr ⟨i, rfl, fin⟩
      rcases oi rw eo with ⟨rfl, rfl⟩ | ⟨i, rfl, rfl⟩
      · exact .inl ⟨rfl, key⟩
      · exact .inr ⟨i, rfl, key⟩
end
end L2
namespace L2
open PySem PySem.Spec PyProof.Rows IC
section
variable {S : Se} {X : Cx} {σ : St} {B : Addr -> Prop} {φ φ1 : Ph} {H H1 : Hp} {st : Store} {ρ : IC.Env} {p pos p2 : Pos} {a b c d : Expr} {ca cb cc : Ce} {es : List Expr} {ces : Ces} {K : PySem.W.Frag} {cl : Nat -> Addr}
def rB (S : Se) (X : Cx) (k : Blt) : List V -> Hp -> VK -> Prop := fun xs H Q => ∃ B φ st vs z, RepS X.K S.cl B φ H st /\ RepL X.K S.cl B φ H vs xs /\ bltV k st vs = some z /\
  ∀ z' H' φ', Step φ H φ' H' -> RepS X.K S.cl B φ' H' st -> RepV X.K S.cl B φ' H' z z' -> Q z' H'
theorem RepL.one {v : PV} {xs : List V} (l : RepL K cl B φ H [v] xs) : ∃ x, xs = [x] /\ RepV K cl B φ H v x := by
  simp only [RepL] at l
  obtain ⟨y, ys, rfl, r, rfl⟩ := l
  exact ⟨y, rfl, r⟩
theorem RepL.two {v w : PV} {xs : List V} (l : RepL K cl B φ H [v, w] xs) : ∃ x y, xs = [x, y] /\ RepV K cl B φ H v x /\ RepV K cl B φ H w y := by
  simp only [RepL] at l
  obtain ⟨y, ys, rfl, r, z, zs, rfl, r2, rfl⟩ := l
  exact ⟨y, z, rfl, r, r2⟩
theorem zfT {k : Blt} {st : Store} {vs : List PV} {z : PV} (h : bltV k st vs = some z) (h2 : ∀ x y, bltV k st [x, y] = none) : ∃ x, vs = [x] := by
  match vs, h with
  | [x], _ => exact ⟨x, rfl⟩
  | [x, y], h => rw [h2] at h; cases h
theorem zhJ {v : PV} {x : V} {vs : List PV} (rs : RepS K cl B φ H st) (r : RepV K cl B φ H v x) (h : lstOf st v = some vs) : ∃ a xs, x = .ref a /\ SqL K H a xs /\ RepL K cl B φ H vs xs := by
  cases v with
  | lst ws =>
    cases h
    simp only [RepV] at r
    obtain ⟨a, xs, rfl, rt, l⟩ := r
    exact ⟨a, xs, rfl, rt.sq, l⟩
  | loc n =>
    simp only [lstOf] at h
    split at h
    · rename_i ws hw
      cases h
      obtain ⟨a, xs, rfl, _, hx, l⟩ := rs.list r hw
      exact ⟨a, xs, rfl, .of hx, l⟩
    · cases h
  | _ => cases h
theorem zpj {v : PV} {x : V} {vs : List PV} (rs : RepS K cl B φ H st) (r : RepV K cl B φ H v x) (h : seqOf st v = some vs) : ∃ a xs, x = .ref a /\ (SqL K H a xs \/ SqT K H a xs) /\ RepL K cl B φ H vs xs := by
  cases v with
  | tp k ws =>
    cases h
    simp only [RepV] at r
    obtain ⟨a, xs, rfl, rt, l⟩ := r
    exact ⟨a, xs, rfl, .inr rt.sq, l⟩
  | lst ws =>
    obtain ⟨a, xs, e, q, l⟩ := zhJ rs r (vs := vs) h
    exact ⟨a, xs, e, .inl q, l⟩
  | loc n =>
    obtain ⟨a, xs, e, q, l⟩ := zhJ rs r (vs := vs) h
    exact ⟨a, xs, e, .inl q, l⟩
  | _ => cases h
theorem zaT : CallR X (.builtin "len") (rB S X .len) := by
  rintro pins s σ H xs us Q I r ⟨B, φ, st, vs, z, rs, l, e, q⟩
  obtain ⟨v, rfl⟩ := zfT e fun _ _ => rfl
  obtain ⟨x, rfl, rv⟩ := l.one
  simp only [bltV, lenV] at e
  split at e
  · rename_i t
    split at e
    · rename_i c
      cases e
      simp only [RepV] at rv
      subst rv
      exact zhR pins s σ H _ us Q I r ⟨t, rfl, by rw [<- za5]; exact c, q _ H φ .rfl rs (by simp only [RepV])⟩
    · cases e
  · cases e1 : seqOf st v with
    | none => rw [e1] at e; cases e
    | some ws =>
      rw [e1] at e
      cases e
      obtain ⟨a, ys, rfl, h, l⟩ := zpj rs rv e1
      refine ziC pins s σ H _ us Q I r ⟨a, ys, rfl, ?_, q _ H φ .rfl rs (by simp only [RepV]; rw [l.length])⟩
      exact h
theorem znP : CallR X (.type "int") (rB S X .int) := by
  rintro pins s σ H xs us Q I r ⟨B, φ, st, vs, z, rs, l, e, q⟩
  obtain ⟨v, rfl⟩ := zfT e fun _ _ => rfl
  obtain ⟨x, rfl, rv⟩ := l.one
  simp only [bltV] at e
  cases v with
  | int i =>
    cases e
    simp only [RepV] at rv
    subst rv
    exact zix pins s σ H _ us Q I r (.inl ⟨i, rfl, q _ H φ .rfl rs (by simp only [RepV])⟩)
  | bl k =>
    cases e
    simp only [RepV] at rv
    subst rv
    exact zix pins s σ H _ us Q I r (.inr ⟨k, rfl, q _ H φ .rfl rs (by simp only [RepV, bi])⟩)
  | _ => cases e
theorem zpy : CallR X (.builtin "abs") (rB S X .abs) := by
  rintro pins s σ H xs us Q I r ⟨B, φ, st, vs, z, rs, l, e, q⟩
  obtain ⟨v, rfl⟩ := zfT e fun _ _ => rfl
  obtain ⟨x, rfl, rv⟩ := l.one
  simp only [bltV] at e
  cases v with
  | int i =>
    cases e
    simp only [RepV] at rv
    subst rv
    exact zmD pins s σ H _ us Q I r ⟨i, rfl, q _ H φ .rfl rs (by simp only [RepV])⟩
  | _ => cases e
theorem zoK {k : Blt} {st : Store} {vs : List PV} {z : PV} (h : bltV k st vs = some z) (h2 : ∀ x, bltV k st [x] = none) : ∃ x y, vs = [x, y] := by
  match vs, h with
  | [x, y], _ => exact ⟨x, y, rfl⟩
  | [x], h => rw [h2] at h; cases h
theorem zpw (hc : X.calm = true) : CallR X (.builtin "min") (rB S X .min) := by
  rintro pins s σ H xs us Q I r ⟨B, φ, st, vs, z, rs, l, e, q⟩
  obtain ⟨v, w, rfl⟩ := zoK e fun _ => rfl
  obtain ⟨x, y, rfl, rv, rw⟩ := l.two
  simp only [bltV, minV] at e
  split at e
  · cases e
    simp only [RepV] at rv rw
    subst rv rw
    exact zlO hc pins s σ H _ us Q I r ⟨_, _, rfl, q _ H φ .rfl rs (by simp only [RepV])⟩
  · cases e
theorem RepL.ints : ∀ {ns : List Int} {xs : List V}, RepL K cl B φ H (ns.map .int) xs -> xs = ns.map V.int
  | [], xs, h => by simpa only [List.map_nil, RepL] using h
  | n :: ns, xs, h => by
    simp only [List.map_cons, RepL] at h
    obtain ⟨y, ys, rfl, r, l⟩ := h
    simp only [RepV] at r
    rw [r, RepL.ints l]
    rfl
theorem RepL.bls : ∀ {ns : List Bool} {xs : List V}, RepL K cl B φ H (ns.map .bl) xs -> xs = ns.map V.bl
  | [], xs, h => by simpa only [List.map_nil, RepL] using h
  | n :: ns, xs, h => by
    simp only [List.map_cons, RepL] at h
    obtain ⟨y, ys, rfl, r, l⟩ := h
    simp only [RepV] at r
    rw [r, RepL.bls l]
    rfl
theorem zfE : CallR X (.type "tuple") (rB S X .tuple) := by
  rintro pins s σ H xs us Q I r ⟨B, φ, st, vs, z, rs, l, e, q⟩
  obtain ⟨v, rfl⟩ := zfT e fun _ _ => rfl
  obtain ⟨x, rfl, rv⟩ := l.one
  simp only [bltV, tupV] at e
  split at e
  · cases e
    simp only [RepV] at rv
    obtain ⟨a, ys, rfl, rt, l⟩ := rv
    exact zem pins s σ H _ us Q I r ⟨a, ys, rfl, .inr ⟨rt.sq, q _ H φ .rfl rs (by simp only [RepV]; exact ⟨a, ys, rfl, rt, l⟩)⟩⟩
  · cases e1 : lstOf st v with
    | none => rw [e1] at e; cases e
    | some ws =>
      rw [e1] at e
      cases e
      obtain ⟨a, ys, rfl, h, l⟩ := zhJ rs rv e1
      exact zem pins s σ H _ us Q I r ⟨a, ys, rfl, .inl ⟨h, fun t ht => q _ _ φ (.upd ht) (rs.upd ht) (.tup_new ht rs l)⟩⟩
theorem zn8 : ∀ {vs : List PV} {m : Bool}, IC.allB vs = some m -> ∃ ns : List Bool, vs = ns.map .bl /\ m = ns.all id
  | [], m, h => by cases h; exact ⟨[], rfl, rfl⟩
  | .bl i :: r, m, h => by
    simp only [IC.allB] at h
    split at h
    · rename_i c e
      cases h
      obtain ⟨ns, e1, e2⟩ := zn8 e
      exact ⟨i :: ns, by rw [e1]; rfl, by rw [e2]; rfl⟩
    · cases h
  | .non :: r, m, h => by cases h
  | .int _ :: r, m, h => by cases h
  | .str _ :: r, m, h => by cases h
  | .tp _ _ :: r, m, h => by cases h
  | .lst _ :: r, m, h => by cases h
  | .loc _ :: r, m, h => by cases h
  | .exn _ :: r, m, h => by cases h
  | .scr _ :: r, m, h => by cases h
theorem zim (hc : X.calm = true) : CallR X (.builtin "all") (rB S X .all) := by
  rintro pins s σ H xs us Q I r ⟨B, φ, st, vs, z, rs, l, e, q⟩
  obtain ⟨v, rfl⟩ := zfT e fun _ _ => rfl
  obtain ⟨x, rfl, rv⟩ := l.one
  simp only [bltV] at e
  cases e1 : lstOf st v with
  | none => rw [e1] at e; cases e
  | some ws =>
    rw [e1] at e
    simp only [Option.bind_some] at e
    cases e2 : IC.allB ws with
    | none => rw [e2] at e; cases e
    | some m =>
      rw [e2] at e
      cases e
      obtain ⟨ns, rfl, rfl⟩ := zn8 e2
      obtain ⟨a, ys, rfl, h, l⟩ := zhJ rs rv e1
      rw [l.bls] at h
      exact zmy hc pins s σ H _ us Q I r ⟨a, ns, rfl, h, q _ H φ .rfl rs (by simp only [RepV])⟩
variable {x : Str} {id T : String} {k : Blt}
theorem zap (hc : CallR X (.builtin id) (rB S X k)) (hg : Gl X x) (hm : X.mg x = none) (hv : bootBuiltins x = some (.builtin id)) (ha : PA X (a :: es) (tAs S X ces)) (hn : x ≠ "__name__" := by decide) (hdb : (x == ("__debug__" : Str)) = false := by decide)
    (he : starEach (a :: es) X.env = (false, eval a X.env) :: starEach es X.env := by rfl) (hpl : (backTo pos (starEach es X.env)).any (·.1) = false := by rfl) : PE X (.Call (.Name x p) (a :: es) [] pos) (tE S X (.blt k ces)) :=
  (zjM hc hg hm hv ha hn hdb he hpl).imp fun σ H Q ⟨B, φ, st, ρ, rs, re, h⟩ => by
    simp only [ev] at h
    refine tAs.bind rs re h fun xs H1 vs st1 φ1 s1 rs1 re1 rv h1 => ?_
    obtain ⟨z, e, q⟩ := zdm h1 rs1
    exact ⟨B, φ1, st1, vs, z, rs1, rv, e, q⟩
theorem zeR (hc : CallR X (.type T) (rB S X k)) (hg : Gl X x) (hm : X.mg x = none) (hv : bootBuiltins x = some (.type T)) (ha : PA X (a :: es) (tAs S X ces)) (hn : x ≠ "__name__" := by decide) (hdb : (x == ("__debug__" : Str)) = false := by decide)
    (he : starEach (a :: es) X.env = (false, eval a X.env) :: starEach es X.env := by rfl) (hpl : (backTo pos (starEach es X.env)).any (·.1) = false := by rfl) : PE X (.Call (.Name x p) (a :: es) [] pos) (tE S X (.blt k ces)) :=
  (zmk hc hg hm hv ha hn hdb he hpl).imp fun σ H Q ⟨B, φ, st, ρ, rs, re, h⟩ => by
    simp only [ev] at h
    refine tAs.bind rs re h fun xs H1 vs st1 φ1 s1 rs1 re1 rv h1 => ?_
    obtain ⟨z, e, q⟩ := zdm h1 rs1
    exact ⟨B, φ1, st1, vs, z, rs1, rv, e, q⟩
end
end L2
namespace L2
open PySem PySem.Spec PyProof.Rows IC
section
variable {S : Se} {X : Cx} {σ : St} {B : Addr -> Prop} {φ φ1 : Ph} {H H1 : Hp} {st : Store} {ρ : IC.Env} {p pos p2 apos : Pos} {a b c d : Expr} {ca cb cc : Ce} {es : List Expr} {ces : Ces} {K : PySem.W.Frag} {cl : Nat -> Addr}
theorem Step.put {l : Addr} {u : HO} (hl : some l ∈ φ) : Step φ H φ (L2.upd H l u) :=
  ⟨fun b o n e => by rw [zV (show b ≠ l from fun z => n (by rw [z]; exact hl))]; exact e, Nat.le_refl _, fun _ _ _ e => e, fun _ h => .inl h⟩
theorem RepS.put {n : Nat} {l : Addr} {u : HO} {o : Ob} (rs : RepS K cl B φ H st) (hn : φ[n]? = some (some l)) (ho : RepO K cl B φ (L2.upd H l u) o l) : RepS K cl B φ (L2.upd H l u) (st.set n o) := by
  have hm : some l ∈ φ := List.mem_of_getElem? hn
  have s : Step φ H φ (L2.upd H l u) := .put hm
  have hlt : n < st.length := by rw [<- rs.len]; exact (List.getElem?_eq_some_iff.mp hn).1
  refine ⟨by rw [List.length_set]; exact rs.len, rs.inj, fun m a e => ?_, fun m o' e ho' => ?_, rs.nb, fun a h => ?_⟩
  · by_cases hmn : m = n
    · subst hmn
      rw [hn] at e; cases e
      exact ⟨o, by rw [List.getElem?_set_self hlt], ho⟩
    · obtain ⟨o', q, r⟩ := rs.obj m a e
      refine ⟨o', by rw [List.getElem?_set_ne (Ne.symm hmn)]; exact q, r.step s ?_⟩
      rw [zV]
      rintro rfl
      exact hmn (rs.inj m n a e hn)
  · by_cases hmn : m = n
    · subst hmn
      exact ⟨l, hn⟩
    · rw [List.getElem?_set_ne (Ne.symm hmn)] at e
      exact rs.liv m o' e ho'
  · obtain ⟨w, e⟩ := rs.dom a h
    by_cases z : a = l
    · subst z; exact ⟨u, zar⟩
    · exact ⟨w, by rw [zV z]; exact e⟩
theorem million : 1000000 <= sizeLine := by rw [sizeLine_eq]; decide
theorem zlx {m : Mth} {v : PV} {st : Store} {α β : Type} {Rel : Ph -> Hp -> α -> β -> Prop} {k : Bool -> R α} {Q : β -> Hp -> Prop} (h : Run S X σ B φ H Rel (onO (mthOk m st v) k) Q) : ∃ b, mthOk m st v = some b /\ Run S X σ B φ H Rel (k b) Q := by
  cases e : mthOk m st v with
  | none => rw [e] at h; exact h.elim
  | some z => rw [e] at h; exact ⟨z, rfl, h⟩
theorem zdn (ha : PE X a (tE S X ca)) (hb : PE X b (tE S X cb)) (hs : starEach [b] X.env = [(false, eval b X.env)] := by rfl) (hbase : attributeBase a "append" X.env (eval a X.env) = eval a X.env := by rfl) (hline : (apos.endLine == pos.line) = true := by rfl)
    (hfew : ((backTo pos (starEach [b] X.env)).all (fun x => !x.1) && (backToKw pos (keywordEach [] X.env)).all (fun x => x.1.isSome) && decide (([b] : List Expr).length + ([] : List Keyword).length + (if ([] : List Keyword).isEmpty then 0 else 1) < 30)) = true := by rfl) :
    PE X (.Call (.Attribute a "append" apos) [b] [] pos) (tE S X (.mth .append ca (.cons cb .nil))) :=
  (zqr PySem.F.plainAttrs_list PySem.F.slot_list_append PySem.F.type_list_append zhM ha (za (S := S) hb zd hs) hbase hfew hline hs rfl).imp fun σ H Q ⟨B, φ, st, ρ, rs, re, h⟩ => by
    simp only [ev] at h
    refine tE.bind rs re h fun x H1 v st1 φ1 s1 rs1 re1 rv h1 => ?_
    obtain ⟨_, e1, h1⟩ := zlx h1
    have t1 : ∃ ws, lstOf st1 v = some ws := by
      simp only [mthOk] at e1
      cases q : lstOf st1 v with
      | none => rw [q] at e1; cases e1
      | some ws => exact ⟨ws, rfl⟩
    obtain ⟨ws, t1⟩ := t1
    obtain ⟨l, xs, rfl, hl, _⟩ := zhJ rs1 rv t1
    refine ⟨.inl ⟨rfl, xs, hl⟩, tAs.bind rs1 re1 h1 fun ys H2 vs st2 φ2 s2 rs2 re2 rvs h2 => ?_⟩
    have rv2 := rv.step s2
    rcases vs with _ | ⟨w, _ | ⟨w', t⟩⟩
    · exact h2.elim
    · obtain ⟨y, rfl, rw⟩ := rvs.one
      simp only [mthV, appV] at h2
      split at h2
      · rename_i n
        split at h2
        · rename_i zs hz
          split at h2
          · rename_i c
            obtain ⟨l', xs', e, hn, hx, lr⟩ := rs2.list rv2 hz
            cases e
            refine ⟨l, xs', y, rfl, rfl, hx, by have := million; have := lr.length; omega, ?_⟩
            exact h2 _ _ φ2 (.put (List.mem_of_getElem? hn)) (rs2.put hn ⟨_, zar, (lr.append (by simp only [RepL]; exact ⟨y, [], rfl, rw, rfl⟩)).step (.put (List.mem_of_getElem? hn))⟩) (by simp only [RepV])
          · exact h2.elim
        · exact h2.elim
      · exact h2.elim
    · exact h2.elim
theorem zpI (ha : PE X a (tE S X ca)) : PE X a (tE S X (.frz ca)) :=
  ha.imp fun σ H Q ⟨B, φ, st, ρ, rs, re, h⟩ => by
    simp only [ev] at h
    refine tE.bind rs re h fun x H1 v st1 φ1 s1 rs1 re1 rv h1 => ?_
    unfold frzV at h1
    split at h1
    · rename_i n
      split at h1
      · rename_i vs hv
        obtain ⟨l, xs, rfl, hn, hx, lr⟩ := rs1.list rv hv
        have hm : some l ∈ φ1 := List.mem_of_getElem? hn
        have hlt : n < φ1.length := (List.getElem?_eq_some_iff.mp hn).1
        have nl : some l ∉ φ1.set n none := fun z => by
          obtain ⟨m, e⟩ := List.mem_iff_getElem?.mp z
          by_cases hmn : m = n
          · subst hmn
            rw [List.getElem?_set_self hlt] at e; cases e
          · rw [List.getElem?_set_ne (Ne.symm hmn)] at e
            exact hmn (rs1.inj m n l e hn)
        have sb : ∀ b, some b ∈ φ1.set n none -> some b ∈ φ1 := fun b z => by
          obtain ⟨m, e⟩ := List.mem_iff_getElem?.mp z
          by_cases hmn : m = n
          · subst hmn
            rw [List.getElem?_set_self hlt] at e; cases e
          · rw [List.getElem?_set_ne (Ne.symm hmn)] at e
            exact List.mem_of_getElem? e
        have s : Step φ1 H1 (φ1.set n none) H1 := ⟨fun _ _ _ e => e, by simp, fun m a hm' e => by
          by_cases hmn : m = n
          · subst hmn
            rw [List.getElem?_set_self hlt] at e; cases e
          · rw [List.getElem?_set_ne (Ne.symm hmn)] at e
            exact e, fun b z => .inl (sb b z)⟩
        refine h1 _ H1 (φ1.set n none) s ⟨by simp [rs1.len], fun m k a e1 e2 => ?_, fun m a e => ?_, fun m o e ho => ?_, fun a z => rs1.nb a (sb a z), rs1.dom⟩ ?_
        · by_cases h1' : m = n
          · subst h1'; rw [List.getElem?_set_self hlt] at e1; cases e1
          · by_cases h2' : k = n
            · subst h2'; rw [List.getElem?_set_self hlt] at e2; cases e2
            · rw [List.getElem?_set_ne (Ne.symm h1')] at e1
              rw [List.getElem?_set_ne (Ne.symm h2')] at e2
              exact rs1.inj m k a e1 e2
        · by_cases hmn : m = n
          · subst hmn; rw [List.getElem?_set_self hlt] at e; cases e
          · rw [List.getElem?_set_ne (Ne.symm hmn)] at e
            obtain ⟨o, q, r⟩ := rs1.obj m a e
            exact ⟨o, by rw [List.getElem?_set_ne (Ne.symm hmn)]; exact q, r.step s rfl⟩
        · by_cases hmn : m = n
          · subst hmn
            rw [List.getElem?_set_self (by rw [<- rs1.len]; exact hlt)] at e; cases e
            exact absurd rfl ho
          · rw [List.getElem?_set_ne (Ne.symm hmn)] at e ⊢
            exact rs1.liv m o e ho
        · simp only [RepV]
          exact ⟨l, xs, rfl, ⟨hx, rs1.nb l hm, nl⟩, lr.step s⟩
      · exact h1.elim
    · exact h1.ok rs1 rv
end
end L2
namespace L2
open PySem PySem.Spec PyProof.Rows IC
section
variable (S : Se) (X : Cx)
def RunF (B : Addr -> Prop) (φ : Ph) (H : Hp) (f : Fl) (D : Ends) : Prop :=
  match f with
  | .nx ρ' st' => ∀ σ' H' φ', Step φ H φ' H' -> RepS X.K S.cl B φ' H' st' -> RepE X.K S.cl B φ' H' ρ' σ' -> D.nx σ' H'
  | .rt v st' => ∀ x H' φ', Step φ H φ' H' -> RepS X.K S.cl B φ' H' st' -> RepV X.K S.cl B φ' H' v x -> D.rt x H'
  | .bk ρ' st' => ∀ σ' H' φ', Step φ H φ' H' -> RepS X.K S.cl B φ' H' st' -> RepE X.K S.cl B φ' H' ρ' σ' -> D.bk σ' H'
  | .ct ρ' st' => ∀ σ' H' φ', Step φ H φ' H' -> RepS X.K S.cl B φ' H' st' -> RepE X.K S.cl B φ' H' ρ' σ' -> D.ct σ' H'
  | .exc k ρ' st' => ∀ σ' φ1 H1 e s', Step φ H φ1 H1 -> RepE X.K S.cl B φ1 H1 ρ' σ' -> ExcAt S X σ' B φ1 H1 k st' e s' -> X.xe e s'
  | .bad => False
def tS (c : Cs) : TS := fun D σ H => ∃ B φ st ρ, RepS X.K S.cl B φ H st /\ RepE X.K S.cl B φ H ρ σ /\ RunF S X B φ H (ex S.call ρ st c) D
def tSs (c : Css) : TS := fun D σ H => ∃ B φ st ρ, RepS X.K S.cl B φ H st /\ RepE X.K S.cl B φ H ρ σ /\ RunF S X B φ H (exs S.call ρ st c) D
end
section
variable {S : Se} {X : Cx} {σ : St} {B : Addr -> Prop} {φ φ1 : Ph} {H H1 : Hp} {st : Store} {ρ : IC.Env} {D : Ends} {pos p2 px : Pos} {a b c o : Expr} {ca cb cc : Ce} {s1 : Stmt} {ss ss' : List Stmt} {c1 : Cs} {cs cs' : Css}
theorem RunF.on {f : Fl} (s : Step φ H φ1 H1) (h : RunF S X B φ H f D) : RunF S X B φ1 H1 f D := by
  cases f with
  | nx ρ st => exact fun σ' H' φ' t => h σ' H' φ' (s.trans t)
  | rt ρ st => exact fun σ' H' φ' t => h σ' H' φ' (s.trans t)
  | bk ρ st => exact fun σ' H' φ' t => h σ' H' φ' (s.trans t)
  | ct ρ st => exact fun σ' H' φ' t => h σ' H' φ' (s.trans t)
  | exc k ρ st => exact fun σ' φ2 H2 e s' t => h σ' φ2 H2 e s' (s.trans t)
  | bad => exact h
theorem tE.fl {k : PV -> Store -> Fl} {P : V -> Hp -> Prop} (rs : RepS X.K S.cl B φ H st) (re : RepE X.K S.cl B φ H ρ σ) (h : RunF S X B φ H ((ev S.call ρ st ca).fl ρ k) D)
    (n : ∀ x H1 v st1 φ1, Step φ H φ1 H1 -> RepS X.K S.cl B φ1 H1 st1 -> RepE X.K S.cl B φ1 H1 ρ σ -> RepV X.K S.cl B φ1 H1 v x -> RunF S X B φ1 H1 (k v st1) D -> P x H1) : tE S X ca σ H P := by
  refine ⟨B, φ, st, ρ, rs, re, ?_⟩
  cases e : ev S.call ρ st ca with
  | ok v st' =>
    rw [e] at h
    exact fun x H' φ' s rs' rv => n x H' v st' φ' s rs' (re.step s) rv (h.on s)
  | exc k st' =>
    rw [e] at h
    exact fun e s' x => h σ φ H e s' .rfl re x
  | bad => rw [e] at h; exact h
theorem PS.imp {t t' : TS} (h : PS X s1 t') (k : ∀ D σ H, t D σ H -> t' D σ H) : PS X s1 t := fun pins s σ H D I q => h pins s σ H D I (k D σ H q)
theorem PSs.imp {t t' : TS} (h : PSs X ss t') (k : ∀ D σ H, t D σ H -> t' D σ H) : PSs X ss t := fun pins s σ H D I q => h pins s σ H D I (k D σ H q)
theorem RepE.set {K : PySem.W.Frag} {cl : Nat -> Addr} (r : RepE K cl B φ H ρ σ) (i : Nat) {v : PV} {x : V} (rv : RepV K cl B φ H v x) : RepE K cl B φ H (ρ.set i (some v)) (σ.set i (some x)) := by
  refine ⟨by rw [List.length_set, List.length_set]; exact r.len, fun j w e => ?_⟩
  by_cases h : j = i
  · subst h
    by_cases hl : j < ρ.length
    · rw [List.getElem?_set_self hl] at e
      cases e
      exact ⟨x, by rw [List.getElem?_set_self (by rw [<- r.len]; exact hl)], rv⟩
    · rw [List.getElem?_eq_none (by rw [List.length_set]; omega)] at e
      cases e
  · rw [List.getElem?_set_ne (Ne.symm h)] at e ⊢
    exact r.get j w e
theorem ze : PSs X [] (tSs S X .nil) := pss_nil.imp fun D σ H ⟨B, φ, st, ρ, rs, re, h⟩ => by
  simp only [exs] at h
  exact h σ H φ .rfl rs re
theorem zb (h1 : PS X s1 (tS S X c1)) (h2 : PSs X ss (tSs S X cs)) : PSs X (s1 :: ss) (tSs S X (.cons c1 cs)) :=
  (znz h1 h2).imp fun D σ H ⟨B, φ, st, ρ, rs, re, h⟩ => by
    simp only [exs] at h
    refine ⟨B, φ, st, ρ, rs, re, ?_⟩
    cases e : ex S.call ρ st c1 with
    | nx ρ1 st1 =>
      rw [e] at h
      exact fun σ' H' φ' s rs' re' => ⟨B, φ', st1, ρ1, rs', re', h.on s⟩
    | rt v st1 => rw [e] at h; exact h
    | bk ρ1 st1 => rw [e] at h; exact h
    | ct ρ1 st1 => rw [e] at h; exact h
    | exc k ρ1 st1 => rw [e] at h; exact h
    | bad => rw [e] at h; exact h
theorem zeX (he : PE X a (tE S X ca)) (hs : swapsWith a none pos.line X.env = pure false := by rfl) : PS X (.Expr a pos) (tS S X (.expr ca)) :=
  (zoV he hs).imp fun D σ H ⟨B, φ, st, ρ, rs, re, h⟩ => by
    simp only [ex] at h
    exact tE.fl rs re h fun x H1 v st1 φ1 s rs1 re1 rv h1 => h1 σ H1 φ1 .rfl rs1 re1
theorem zy (he : PE X a (tE S X ca)) : PS X (.Return (some a) pos) (tS S X (.ret ca)) :=
  (zpC he).imp fun D σ H ⟨B, φ, st, ρ, rs, re, h⟩ => by
    simp only [ex] at h
    exact tE.fl rs re h fun x H1 v st1 φ1 s rs1 re1 rv h1 => h1 x H1 φ1 .rfl rs1 rv
theorem zC {i : Nat} {x : Str} (hN : X.N.Nodup) (hi : X.N[i]? = some x) (hx : Loc X.env.scope x) (he : PE X a (tE S X ca)) (hs : swapsWith a (some (.Name x px)) pos.line X.env = pure false := by rfl)
    (hf : X.fn x = true \/ X.env.scope.names.lookup x = some .local := by first | exact .inl rfl | exact .inr rfl | assumption) : PS X (.Assign [.Name x px] a pos) (tS S X (.asg (.n i) ca)) :=
  (zqc hN hi hx he hs hf).imp fun D σ H ⟨B, φ, st, ρ, rs, re, h⟩ => by
    simp only [ex] at h
    exact tE.fl rs re h fun x H1 v st1 φ1 s rs1 re1 rv h1 => h1 _ H1 φ1 .rfl rs1 (re1.set i rv)
theorem flT (r : R PV) (f : Bool -> Store -> Fl) : (r.fl ρ fun x st1 => onF (truV st1 x) fun k => f k st1) = (truR r).fl ρ f := by
  cases r with
  | ok v s =>
    simp only [R.fl, truR, R.bind]
    cases truV s v <;> rfl
  | exc c s => rfl
  | bad => rfl
theorem tTs.fl {k : Bool -> Store -> Fl} {P : Bool -> Hp -> Prop} (rs : RepS X.K S.cl B φ H st) (re : RepE X.K S.cl B φ H ρ σ) (h : RunF S X B φ H ((truR (ev S.call ρ st ca)).fl ρ k) D)
    (n : ∀ b H1 st1 φ1, Step φ H φ1 H1 -> RepS X.K S.cl B φ1 H1 st1 -> RepE X.K S.cl B φ1 H1 ρ σ -> RunF S X B φ1 H1 (k b st1) D -> P b H1) : tTs S X ca σ H P := by
  refine ⟨B, φ, st, ρ, rs, re, ?_⟩
  cases e : truR (ev S.call ρ st ca) with
  | ok v st' =>
    rw [e] at h
    exact fun x H' φ' s rs' rv => by
      subst rv
      exact n v H' st' φ' s rs' (re.step s) (h.on s)
  | exc k st' =>
    rw [e] at h
    exact fun e s' x => h σ φ H e s' .rfl re x
  | bad => rw [e] at h; exact h
theorem zY (hc : PT X c (tTs S X cc)) (ha : PSs X ss (tSs S X cs)) (hb : PSs X ss' (tSs S X cs')) : PS X (.If c ss ss' pos) (tS S X (.ite cc cs cs')) :=
  (zqy hc ha hb).imp fun D σ H ⟨B, φ, st, ρ, rs, re, h⟩ => by
    simp only [ex] at h
    rw [flT _ fun k st1 => cond k (exs S.call ρ st1 cs) (exs S.call ρ st1 cs')] at h
    refine tTs.fl rs re h fun k H1 st1 φ1 s rs1 re1 h1 => ?_
    cases k with
    | true => exact ⟨B, φ1, st1, ρ, rs1, re1, h1⟩
    | false => exact ⟨B, φ1, st1, ρ, rs1, re1, h1⟩
theorem znR {i : Nat} {x : Str} {op : Operator} {bo : BOp} (hN : X.N.Nodup) (hi : X.N[i]? = some x) (hx : Loc X.env.scope x) (he : PE X a (tE S X ca)) (ho : PIp X op (rT2 S X (augV bo)))
    (hf : X.fn x = true \/ X.env.scope.names.lookup x = some .local := by first | exact .inl rfl | exact .inr rfl | assumption) (hd : (x == ("__debug__" : Str)) = false := by decide) (hcd : (x == ("__classdict__" : Str)) = false := by decide) : PS X (.AugAssign (.Name x px) op a pos) (tS S X (.aug i bo ca)) :=
  (zqg hN hi hx he ho hf).imp fun D σ H ⟨B, φ, st, ρ, rs, re, h⟩ => by
    simp only [ex] at h
    cases q : ρ[i]? with
    | none => rw [q] at h; exact h.elim
    | some w =>
      cases w with
      | none => rw [q] at h; exact h.elim
      | some w =>
        rw [q] at h
        obtain ⟨y, hy, rw⟩ := re.get i w q
        refine ⟨y, hy, tE.fl rs re h fun z H1 v st1 φ1 s rs1 re1 rv h1 => ?_⟩
        cases e : augV bo w v with
        | none => rw [e] at h1; exact h1.elim
        | some u =>
          rw [e] at h1
          exact ⟨B, φ1, st1, w, v, u, rs1, rw.step s, rv, e, fun z' H' φ' s' rs' rz => h1 _ H' φ' s' rs' ((re1.step s').set i rz)⟩
end
end L2
namespace L2
open PySem PySem.Spec PyProof.Rows IC
section
variable (S : Se) (X : Cx)
structure Drw (B : Addr -> Prop) (φ0 : Ph) (H0 : Hp) (xs : List PV) (J : It) : Prop where
  stop : ∀ φ H, Step φ0 H0 φ H -> J.stop xs.length H
  go : ∀ (i : Nat) φ H, Step φ0 H0 φ H -> i < xs.length -> J.go i H
  yld : ∀ (i : Nat) φ H st x H' (B' : Addr -> Prop), (∀ y, B' y -> B y \/ H0 y = none) -> Step φ0 H0 φ H -> RepS X.K S.cl B' φ H st -> i < xs.length -> J.yld i H x H' -> ∃ v, xs[i]? = some v /\ RepV X.K S.cl B' φ H' v x /\ ∀ b o, H b = some o -> H' b = some o
abbrev RD (B : Addr -> Prop) : Ph -> Hp -> List PV -> It -> Prop := fun φ H => Drw S X B φ H
def tI (c : Cit) : TI := fun σ H R => ∃ B φ st ρ, RepS X.K S.cl B φ H st /\ RepE X.K S.cl B φ H ρ σ /\ Run S X σ B φ H (RD S X B) (evi S.call ρ st c) R
end
section
variable {S : Se} {X : Cx} {σ : St} {B : Addr -> Prop} {φ φ1 : Ph} {H H1 : Hp} {st : Store} {ρ : IC.Env} {D : Ends} {pos p p2 px : Pos} {a b c o tg l : Expr} {ca cb cc : Ce} {es : List Expr} {ces : Ces} {ss : List Stmt} {cs : Css} {ci : Cit} {ct : Tg}
theorem zR {s1 : Stmt} : PS X s1 (tS S X .nope) := fun pins s σ H D I ⟨B, φ, st, ρ, rs, re, h⟩ => by
  simp only [ex] at h
  exact h.elim
theorem PI.imp {t t' : TI} (h : PI X tg l t') (k : ∀ σ H R, t σ H R -> t' σ H R) : PI X tg l t := fun pins s σ H R I q => h pins s σ H R I (k σ H R q)
theorem zqd {tl : TE} (hl : PE X l tl) : PI X tg l (fun σ H R => tl σ H fun x H1 => ∃ a, x = .ref a /\ (((∃ xs, SqL X.K H1 a xs) /\ R (Itl X.K a) H1) \/ ((∃ xs, SqT X.K H1 a xs) /\ R (Itt X.K a) H1))) := by
  intro pins s σ H R I h
  refine thn (hl pins s σ H _ I h) fun v s1 ⟨x, H1, I1, r1, q1⟩ => ?_
  obtain ⟨a, e, q1⟩ := q1
  subst e
  cases r1
  rcases q1 with ⟨⟨xs, hq⟩, q⟩ | ⟨⟨xs, hq⟩, q⟩
  · obtain ⟨its, rv, p, hz⟩ := I1.list hq
    refine wpAny_pyIter_list p.isList ?_
    refine ⟨s1.heap.objs.size, [s1.heap.objs.size], _, _, H1, rfl, I1.kept (t' := s1.toks) fun b o e => Heap.get?_push_of_some _ e, zlk a _, ⟨_, Heap.get?_push_size _ rfl, rfl, rfl⟩, fun b hb => ?_, q⟩
    have e : b = s1.heap.objs.size := by simpa using hb
    subst e
    exact I1.fpOk (Nat.le_refl _) (I1.hok.fresh (Nat.le_refl _))
  · obtain ⟨its, rv, p, hz⟩ := I1.tuple hq
    refine wpAny_pyIter_tuple (show s1.heap.IsTuple a its.toArray from p) ?_
    refine ⟨s1.heap.objs.size, [s1.heap.objs.size], _, _, H1, rfl, I1.kept (t' := s1.toks) fun b o e => Heap.get?_push_of_some _ e, zj2 a _, ⟨_, Heap.get?_push_size _ rfl, rfl, rfl⟩, fun b hb => ?_, q⟩
    have e : b = s1.heap.objs.size := by simpa using hb
    subst e
    exact I1.fpOk (Nat.le_refl _) (I1.hok.fresh (Nat.le_refl _))
theorem zo2 {k : Bool} {vs : List PV} {xs : List V} {y : Addr} (rt : RTup X.K B φ H k y xs) (l : RepL X.K S.cl B φ H vs xs) : Drw S X B φ H vs (Itt X.K y) := by
  have hl := l.length
  refine ⟨fun φ' H' s => ⟨xs, (rt.step s).sq, by omega⟩, fun i φ' H' s hi => ⟨xs, xs[i]'(by omega), (rt.step s).sq, by simp [show i < xs.length by omega]⟩, fun i φ' H' st x H2 B' hB s rs hi q => ?_⟩
  obtain ⟨rfl, q⟩ := q
  obtain ⟨v, hv⟩ : ∃ v, vs[i]? = some v := ⟨vs[i], by simp [hi]⟩
  obtain ⟨x', hx', rv⟩ := l.get i hv
  have := q xs (rt.step s).sq
  rw [this] at hx'
  cases hx'
  exact ⟨v, hv, (rv.moreB hB).step s, fun _ _ e => e⟩
theorem zoT {vs : List PV} {xs : List V} {y : Addr} (rt : RLst B φ H y xs) (l : RepL X.K S.cl B φ H vs xs) : Drw S X B φ H vs (Itl X.K y) := by
  have hl := l.length
  refine ⟨fun φ' H' s => ⟨xs, (rt.step s).sq, by omega⟩, fun i φ' H' s hi => ⟨xs, xs[i]'(by omega), (rt.step s).sq, by simp [show i < xs.length by omega]⟩, fun i φ' H' st x H2 B' hB s rs hi q => ?_⟩
  obtain ⟨rfl, q⟩ := q
  obtain ⟨v, hv⟩ : ∃ v, vs[i]? = some v := ⟨vs[i], by simp [hi]⟩
  obtain ⟨x', hx', rv⟩ := l.get i hv
  have := q xs (rt.step s).sq
  rw [this] at hx'
  cases hx'
  exact ⟨v, hv, (rv.moreB hB).step s, fun _ _ e => e⟩
theorem zcN (hl : PE X l (tE S X ca)) : PI X tg l (tI S X (.seq ca)) :=
  (zqd hl).imp fun σ H R ⟨B, φ, st, ρ, rs, re, h⟩ => by
    simp only [evi] at h
    refine tE.bind rs re h fun x H1 v st1 φ1 s1 rs1 re1 rv h1 => ?_
    cases v with
    | tp k vs =>
      simp only [RepV] at rv
      obtain ⟨y, xs, rfl, rt, l⟩ := rv
      exact ⟨y, rfl, .inr ⟨⟨xs, rt.sq⟩, h1.ok rs1 (zo2 rt l)⟩⟩
    | lst vs =>
      simp only [RepV] at rv
      obtain ⟨y, xs, rfl, rt, l⟩ := rv
      exact ⟨y, rfl, .inl ⟨⟨xs, rt.sq⟩, h1.ok rs1 (zoT rt l)⟩⟩
    | _ => exact h1.elim
theorem zeV : ∀ (n : Nat) (lo d : Int) (i : Nat), (rangeL n lo d)[i]? = if i < n then some (.int (lo + i * d)) else none
  | 0, lo, d, i => by simp [rangeL]
  | n + 1, lo, d, 0 => by simp [rangeL]
  | n + 1, lo, d, i + 1 => by
    simp only [rangeL, List.getElem?_cons_succ]
    rw [zeV n (lo + d) d i]
    by_cases h : i < n
    · rw [if_pos h, if_pos (by omega), Int.natCast_succ, Int.add_mul, Int.one_mul, Int.add_assoc, Int.add_comm d]
    · rw [if_neg h, if_neg (by omega)]
theorem zbJ : ∀ (n : Nat) (lo d : Int), (rangeL n lo d).length = n
  | 0, lo, d => rfl
  | n + 1, lo, d => by simp [rangeL, zbJ n]
theorem zlN {lo : Int} {n : Nat} : Drw S X B φ H (rangeL n lo 1) (Itr lo n) := by
  refine ⟨fun φ' H' s => by rw [zbJ]; exact Nat.le_refl _, fun i φ' H' s hi => by rw [zbJ] at hi; exact hi, fun i φ' H' st x H2 B' hB s rs hi q => ?_⟩
  rw [zbJ] at hi
  obtain ⟨rfl, rfl⟩ := q
  refine ⟨.int (lo + i), ?_, by simp only [RepV], fun _ _ e => e⟩
  rw [zeV, if_pos hi, Int.mul_one]
theorem zkV {o : Option (List PV)} {st : Store} {Q : It -> Hp -> Prop} (h : Run S X σ B φ H (RD S X B) (toL o st) Q) : ∃ xs, o = some xs /\ Run S X σ B φ H (RD S X B) (.ok xs st) Q := by
  cases o with
  | none => exact h.elim
  | some z => exact ⟨z, rfl, h⟩
theorem zbB (hg : Gl X "range") (hm : X.mg "range" = none) (ha : PE X a (tE S X ca)) (hs : starEach [a] X.env = [(false, eval a X.env)] := by rfl) : PI X tg (.Call (.Name "range" p) [a] [] pos) (tI S X (.range1 ca)) :=
  (zlW hg hm (zdf ha pa_nil hs) hs).imp fun σ H R ⟨B, φ, st, ρ, rs, re, h⟩ => by
    simp only [evi] at h
    refine tE.bind rs re h fun x H1 v st1 φ1 s1 rs1 re1 rv h1 => ?_
    obtain ⟨xs, e, h1⟩ := zkV h1
    cases v with
    | int j =>
      simp only [rng1] at e
      split at e
      · cases e
        simp only [RepV] at rv
        subst rv
        exact ⟨j, rfl, by omega, by omega, h1.ok rs1 zlN⟩
      · cases e
    | _ => cases e
theorem zno {x y : PV} {xs : List PV} (h : rngD x y = some xs) : ∃ i j, x = .int i /\ y = .int j /\ i.natAbs < 1000000000 /\ j.natAbs < 1000000000 /\ xs = rangeL (i - j).toNat i (-1) := by
  unfold rngD at h
  split at h
  · split at h
    · rename_i c
      exact ⟨_, _, rfl, rfl, c.1, c.2, (Option.some.inj h).symm⟩
    · cases h
  · cases h
theorem zgi : ∀ (xs : List PV) (k i : Nat), (pairsUp k xs)[i]? = (xs[i]?).map fun x => .tup [.int ((k + i : Nat) : Int), x]
  | [], k, i => by simp [pairsUp]
  | x :: xs, k, 0 => by simp [pairsUp]
  | x :: xs, k, i + 1 => by
    simp only [pairsUp, List.getElem?_cons_succ]
    rw [zgi xs (k + 1) i]
    have : k + 1 + i = k + (i + 1) := by omega
    rw [this]
theorem zgr : ∀ (xs : List PV) (k : Nat), (pairsUp k xs).length = xs.length
  | [], k => rfl
  | x :: xs, k => by simp [pairsUp, zgr xs]
theorem zm8 {k : Bool} {vs : List PV} {xs : List V} {y : Addr} (rt : RTup X.K B φ H k y xs) (l : RepL X.K S.cl B φ H vs xs) : Drw S X B φ H (pairsUp 0 vs) (Ite X.K y) := by
  have hl := l.length
  have hp := zgr vs 0
  refine ⟨fun φ' H' s => ⟨xs, (rt.step s).sq, by omega⟩, fun i φ' H' s hi => ⟨xs, xs[i]'(by omega), (rt.step s).sq, by simp [show i < xs.length by omega]⟩, fun i φ' H' st x H2 B' hB s rs hi q => ?_⟩
  obtain ⟨T, hT, rfl, q⟩ := q
  obtain ⟨v, hv⟩ : ∃ v, vs[i]? = some v := ⟨vs[i]'(by omega), by simp [show i < vs.length by omega]⟩
  obtain ⟨x', hx', rv⟩ := l.get i hv
  have e := q xs x' (rt.step s).sq hx'
  subst e
  refine ⟨.tup [.int i, v], ?_, .tup_new hT rs ?_, fun b o e => by rw [zV (z7 e hT)]; exact e⟩
  · rw [zgi, hv]
    simp
  · simp only [RepL, RepV]
    exact ⟨_, _, rfl, rfl, x', [], rfl, (rv.moreB hB).step s, rfl⟩
theorem zi8 {es : List Expr} {kk : Nat} {tp : Pos} (hg : Gl X "enumerate") (hm : X.mg "enumerate" = none) (ha : PE X a (tE S X ca)) (hs : starEach [a] X.env = [(false, eval a X.env)] := by rfl) :
    PI X (.Tuple es kk tp) (.Call (.Name "enumerate" p) [a] [] pos) (tI S X (.enum ca)) :=
  (znp hg hm (zdf ha pa_nil hs) hs).imp fun σ H R ⟨B, φ, st, ρ, rs, re, h⟩ => by
    simp only [evi] at h
    refine tE.bind rs re h fun x H1 v st1 φ1 s1 rs1 re1 rv h1 => ?_
    cases v with
    | tp k vs =>
      simp only [RepV] at rv
      obtain ⟨y, xs, rfl, rt, l⟩ := rv
      exact ⟨y, rfl, ⟨xs, rt.sq⟩, h1.ok rs1 (zm8 rt l)⟩
    | _ => exact h1.elim
def tG (S : Se) (X : Cx) (t : Tg) : TG := fun v σ H Q => ∃ B φ st ρ w ρ', RepS X.K S.cl B φ H st /\ RepE X.K S.cl B φ H ρ σ /\ RepV X.K S.cl B φ H w v /\ bindT t w ρ = some ρ' /\ ∀ σ', RepE X.K S.cl B φ H ρ' σ' -> Q σ' H
theorem PG.imp {t t' : TG} (h : PG X tg t') (k : ∀ v σ H Q, t v σ H Q -> t' v σ H Q) : PG X tg t := fun pins s σ H v u Q I rv q => h pins s σ H v u Q I rv (k v σ H Q q)
theorem zao {i : Nat} {x : Str} (hN : X.N.Nodup) (hi : X.N[i]? = some x) (hx : Loc X.env.scope x) (hf : X.fn x = true \/ X.env.scope.names.lookup x = some .local := by first | exact .inl rfl | exact .inr rfl | assumption) : PG X (.Name x pos) (tG S X (.n i)) :=
  (zkR hN hi hx hf).imp fun v σ H Q ⟨B, φ, st, ρ, w, ρ', rs, re, rv, e, q⟩ => by
    cases e
    exact q _ (re.set i rv)
def gNs (l : List Nat) : TGs := fun vs σ H Q => vs.length = l.length /\ Q ((l.zip vs).foldl (fun σ p => σ.set p.1 (some p.2)) σ) H
theorem PGs.imp {es : List Expr} {t t' : TGs} (h : PGs X es t') (k : ∀ v σ H Q, t v σ H Q -> t' v σ H Q) : PGs X es t := fun pins s σ H vs us Q I rv q => h pins s σ H vs us Q I rv (k vs σ H Q q)
theorem zdi : PGs X [] (gNs []) := pgs_nil.imp fun vs σ H Q ⟨h, q⟩ => by
  cases vs with
  | nil => exact ⟨rfl, q⟩
  | cons _ _ => cases h
theorem zaD {es : List Expr} {l : List Nat} {i : Nat} {x : Str} (hN : X.N.Nodup) (hi : X.N[i]? = some x) (hx : Loc X.env.scope x) (h2 : PGs X es (gNs l)) (hf : X.fn x = true \/ X.env.scope.names.lookup x = some .local := by first | exact .inl rfl | exact .inr rfl | assumption) : PGs X (.Name x pos :: es) (gNs (i :: l)) :=
  (znC (zkR hN hi hx hf) h2).imp fun vs σ H Q ⟨h, q⟩ => by
    cases vs with
    | nil => cases h
    | cons v vs => exact ⟨v, vs, rfl, by simpa using h, q⟩
theorem RepE.sets {K : PySem.W.Frag} {cl : Nat -> Addr} : ∀ (l : List Nat) {vs : List PV} {xs : List V} {ρ : IC.Env} {σ : St}, RepE K cl B φ H ρ σ -> RepL K cl B φ H vs xs ->
    RepE K cl B φ H ((l.zip vs).foldl (fun ρ p => ρ.set p.1 (some p.2)) ρ) ((l.zip xs).foldl (fun σ p => σ.set p.1 (some p.2)) σ)
  | [], vs, xs, ρ, σ, re, l => by simpa using re
  | i :: is, [], xs, ρ, σ, re, l => by
    simp only [RepL] at l
    subst l
    simpa using re
  | i :: is, v :: vs, xs, ρ, σ, re, l => by
    simp only [RepL] at l
    obtain ⟨y, ys, rfl, r, l⟩ := l
    simp only [List.zip_cons_cons, List.foldl_cons]
    exact RepE.sets is (re.set i r) l
theorem zfk {es : List Expr} {l : List Nat} {k : Nat} (hc : X.calm = true) (h : PGs X es (gNs l)) (hn : (assignEach es X.env).length = l.length := by rfl) (hst : (assignEach es X.env).findIdx? (·.1) = none := by rfl) : PG X (.Tuple es k pos) (tG S X (.t l)) :=
  (zpT hc h hn hst).imp fun v σ H Q ⟨B, φ, st, ρ, w, ρ', rs, re, rv, e, q⟩ => by
    cases w with
    | tp kk vs =>
      simp only [bindT] at e
      split at e
      · rename_i c
        cases e
        simp only [RepV] at rv
        obtain ⟨y, xs, rfl, rt, lr⟩ := rv
        have hl := lr.length
        exact ⟨y, xs, rfl, rt.sq, by omega, by omega, q _ (RepE.sets l re lr)⟩
      · cases e
    | _ => cases e
theorem zgk {es : List Expr} {l : List Nat} {k : Nat} (he : PE X a (tE S X ca)) (hg : PG X (.Tuple es k p2) (tG S X (.t l))) (hs : swapsWithSole [.Tuple es k p2] a pos.line X.env = pure false := by rfl) (hw : swappedStores [.Tuple es k p2] a X.env = pure none := by rfl) :
    PS X (.Assign [.Tuple es k p2] a pos) (tS S X (.asg (.t l) ca)) :=
  (zn0 he hg hs hw).imp fun D σ H ⟨B, φ, st, ρ, rs, re, h⟩ => by
    simp only [ex] at h
    refine tE.fl rs re h fun x H1 v st1 φ1 s rs1 re1 rv h1 => ?_
    cases e : bindT (.t l) v ρ with
    | none => rw [e] at h1; exact h1.elim
    | some ρ' =>
      rw [e] at h1
      exact ⟨B, φ1, st1, ρ, v, ρ', rs1, re1, rv, e, fun σ' re' => h1 σ' H1 φ1 .rfl rs1 re'⟩
theorem tI.fl {k : List PV -> Store -> Fl} {P : It -> Hp -> Prop} (rs : RepS X.K S.cl B φ H st) (re : RepE X.K S.cl B φ H ρ σ) (h : RunF S X B φ H ((evi S.call ρ st ci).fl ρ k) D)
    (n : ∀ x H1 v st1 φ1, Step φ H φ1 H1 -> RepS X.K S.cl B φ1 H1 st1 -> RepE X.K S.cl B φ1 H1 ρ σ -> Drw S X B φ1 H1 v x -> RunF S X B φ1 H1 (k v st1) D -> P x H1) : tI S X ci σ H P := by
  refine ⟨B, φ, st, ρ, rs, re, ?_⟩
  cases e : evi S.call ρ st ci with
  | ok v st' =>
    rw [e] at h
    exact fun x H' φ' s rs' rv => n x H' v st' φ' s rs' (re.step s) rv (h.on s)
  | exc k st' =>
    rw [e] at h
    exact fun e s' x => h σ φ H e s' .rfl re x
  | bad => rw [e] at h; exact h
theorem zbx (hp : PassesOwn (model X.prog X.w) X.A X.env X.xe) (hc : X.calm = true) (hi : PI X tg l (tI S X ci)) (hg : PG X tg (tG S X ct)) (hb : PSs X ss (tSs S X cs)) (hs : ∀ x, foldedSetIterable l X.env x = pure x := by intro _; rfl) :
    PS X (.For tg l ss [] pos) (tS S X (.for ct ci cs)) :=
  (zpv hp hc hi hg hb hs).imp fun D σ H ⟨B, φ, st, ρ, rs, re, h⟩ => by
    simp only [ex] at h
    refine tI.fl rs re h fun J H1 xs st1 φ1 s1 rs1 re1 dr h1 => ?_
    refine ⟨fun i m σ H => ∃ φ st ρ, i + m = xs.length /\ Step φ1 H1 φ H /\ RepS X.K S.cl B φ H st /\ RepE X.K S.cl B φ H ρ σ /\ RunF S X B φ H (forL ct (fun ρ2 st2 => exs S.call ρ2 st2 cs) (xs.drop i) ρ st) D,
      ⟨xs.length, φ1, st1, ρ, by omega, .rfl, rs1, re1, by simpa using h1⟩, ?_⟩
    rintro i m σ2 H2 ⟨φ2, st2, ρ2, hm, s2, rs2, re2, h2⟩
    by_cases hi : i < xs.length
    · refine .inr ⟨dr.go i φ2 H2 s2 hi, fun σ' H' => ∃ φ st ρ, Step φ1 H1 φ H' /\ RepS X.K S.cl B φ H' st /\ RepE X.K S.cl B φ H' ρ σ' /\ RunF S X B φ H' (forL ct (fun ρ2 st2 => exs S.call ρ2 st2 cs) (xs.drop (i + 1)) ρ st) D,
        fun σ' H' ⟨φ, st, ρ, s, q⟩ => ⟨m - 1, by omega, φ, st, ρ, by omega, s, q⟩, fun x H3 hy => ?_⟩
      obtain ⟨v, hv, rv, kk⟩ := dr.yld i φ2 H2 st2 x H3 B (fun _ z => .inl z) s2 rs2 hi hy
      have e : xs.drop i = v :: xs.drop (i + 1) := by
        rw [List.drop_eq_getElem_cons hi]
        rw [List.getElem?_eq_getElem hi] at hv
        rw [Option.some.inj hv]
      have s3 : Step φ2 H2 φ2 H3 := ⟨fun b o _ e => kk b o e, Nat.le_refl _, fun _ _ _ e => e, fun _ h => .inl h⟩
      have rs3 : RepS X.K S.cl B φ2 H3 st2 := rs2.same kk
      rw [e, forL] at h2
      cases eb : bindT ct v ρ2 with
      | none => rw [eb] at h2; exact h2.elim
      | some ρ3 =>
        rw [eb] at h2
        refine ⟨B, φ2, st2, ρ2, v, ρ3, rs3, re2.step s3, rv, eb, fun σ' re' => ⟨B, φ2, st2, ρ3, rs3, re', ?_⟩⟩
        have h3 := RunF.on s3 h2
        dsimp only at h3
        cases ee : exs S.call ρ3 st2 cs with
        | nx ρ4 st4 =>
          rw [ee] at h3
          exact fun σ4 H4 φ4 s4 rs4 re4 => ⟨φ4, st4, ρ4, s2.trans (s3.trans s4), rs4, re4, RunF.on s4 h3⟩
        | ct ρ4 st4 =>
          rw [ee] at h3
          exact fun σ4 H4 φ4 s4 rs4 re4 => ⟨φ4, st4, ρ4, s2.trans (s3.trans s4), rs4, re4, RunF.on s4 h3⟩
        | bk ρ4 st4 => rw [ee] at h3; exact h3
        | rt v4 st4 => rw [ee] at h3; exact h3
        | exc k ρ4 st4 => rw [ee] at h3; exact h3
        | bad => rw [ee] at h3; exact h3
    · have e : i = xs.length := by omega
      subst e
      rw [List.drop_length, forL] at h2
      exact .inl ⟨dr.stop φ2 H2 s2, h2 σ2 H2 φ2 .rfl rs2 re2⟩
theorem znD (hp : PassesOwn (model X.prog X.w) X.A X.env X.xe) (hc : PT X c (tTs S X cc)) (hb : PSs X ss (tSs S X cs)) : PS X (.While c ss [] pos) (tS S X (.while cc cs)) :=
  (znm hp hc hb).imp fun D σ H ⟨B, φ, st, ρ, rs, re, h⟩ => by
    simp only [ex] at h
    refine ⟨fun m σ H => ∃ φ st ρ, RepS X.K S.cl B φ H st /\ RepE X.K S.cl B φ H ρ σ /\ RunF S X B φ H (whileL (fun ρ2 st2 => ev S.call ρ2 st2 cc) (fun ρ2 st2 => exs S.call ρ2 st2 cs) m ρ st) D, ⟨100000, φ, st, ρ, rs, re, h⟩, ?_⟩
    rintro m σ2 H2 ⟨φ2, st2, ρ2, rs2, re2, h2⟩
    cases m with
    | zero => exact h2.elim
    | succ m =>
      rw [whileL] at h2
      rw [flT _ fun k st1 => cond k (againF (exs S.call ρ2 st1 cs) fun ρ2 st2 => whileL (fun ρ2 st2 => ev S.call ρ2 st2 cc) (fun ρ2 st2 => exs S.call ρ2 st2 cs) m ρ2 st2) (.nx ρ2 st1)] at h2
      refine tTs.fl rs2 re2 h2 fun k H3 st3 φ3 s3 rs3 re3 h3 => ?_
      cases k with
      | false => exact h3 σ2 H3 φ3 .rfl rs3 re3
      | true =>
        refine ⟨fun σ' H' => ∃ φ st ρ, RepS X.K S.cl B φ H' st /\ RepE X.K S.cl B φ H' ρ σ' /\ RunF S X B φ H' (whileL (fun ρ2 st2 => ev S.call ρ2 st2 cc) (fun ρ2 st2 => exs S.call ρ2 st2 cs) m ρ st) D,
          fun σ' H' q => ⟨m, by omega, q⟩, B, φ3, st3, ρ2, rs3, re3, ?_⟩
        simp only [cond_true] at h3
        cases ee : exs S.call ρ2 st3 cs with
        | nx ρ4 st4 =>
          rw [ee] at h3
          exact fun σ4 H4 φ4 s4 rs4 re4 => ⟨φ4, st4, ρ4, rs4, re4, RunF.on s4 h3⟩
        | ct ρ4 st4 =>
          rw [ee] at h3
          exact fun σ4 H4 φ4 s4 rs4 re4 => ⟨φ4, st4, ρ4, rs4, re4, RunF.on s4 h3⟩
        | bk ρ4 st4 => rw [ee] at h3; exact h3
        | rt v4 st4 => rw [ee] at h3; exact h3
        | exc k ρ4 st4 => rw [ee] at h3; exact h3
        | bad => rw [ee] at h3; exact h3
end
end L2
namespace L2
open PySem PySem.Spec PyProof.Rows IC
section
variable (S : Se) (K : PySem.W.Frag)
def Run0 {α β : Type} (B : Addr -> Prop) (φ : Ph) (H : Hp) (Rel : Ph -> Hp -> α -> β -> Prop) (r : R α) (Q : β -> Hp -> Prop) : Prop :=
  match r with
  | .ok v st' => ∀ x H' φ', Step φ H φ' H' -> RepS K S.cl B φ' H' st' -> Rel φ' H' v x -> Q x H'
  | _ => False
def tE0 (c : Ce) : TE := fun σ H Q => ∃ B φ st ρ, RepS K S.cl B φ H st /\ RepE K S.cl B φ H ρ σ /\ Run0 S K B φ H (fun φ H => RepV K S.cl B φ H) (ev S.call ρ st c) Q
def tT0 (c : Ce) : TT := fun σ H Q => ∃ B φ st ρ, RepS K S.cl B φ H st /\ RepE K S.cl B φ H ρ σ /\ Run0 S K B φ H RB (truR (ev S.call ρ st c)) Q
def tG0 (t : Tg) : TG := fun v σ H Q => ∃ B φ st ρ w ρ', RepS K S.cl B φ H st /\ RepE K S.cl B φ H ρ σ /\ RepV K S.cl B φ H w v /\ bindT t w ρ = some ρ' /\ ∀ σ', RepE K S.cl B φ H ρ' σ' -> Q σ' H
end
section
variable {S : Se} {X : Cx} {K : PySem.W.Frag} {cl : Nat -> Addr} {σ : St} {B : Addr -> Prop} {φ φ1 : Ph} {H H1 : Hp} {st : Store} {ρ : IC.Env} {pos p p2 px : Pos} {a b c o tg l elt iter : Expr} {ca cb cc ce : Ce} {ci : Cit} {ct : Tg}
theorem zdW (hK : X.K = K) (h : PE X a (tE S X ca)) : PE X a (tE0 S K ca) := by
  subst hK
  refine h.imp fun σ H Q ⟨B, φ, st, ρ, rs, re, q⟩ => ⟨B, φ, st, ρ, rs, re, ?_⟩
  cases e : ev S.call ρ st ca with
  | ok v st' => rw [e] at q; exact q
  | exc k st' => rw [e] at q; exact q.elim
  | bad => rw [e] at q; exact q
theorem zcO : PTs X [] (tT0 S K (.cst (.bl true))) := fun pins s σ H Q I ⟨B, φ, st, ρ, rs, re, q⟩ => by
  refine zoo pins s σ H Q I ?_
  simp only [ev, truR, R.bind, truV, onO] at q
  exact q true H φ .rfl rs rfl
theorem zdV (hK : X.K = K) (h : PG X tg (tG S X ct)) : PG X tg (tG0 S K ct) := by
  subst hK
  exact h
theorem RTup.skip {k : Bool} {D y : Addr} {u : HO} {xs : List V} (hD : B D) (r : RTup K B φ H k y xs) : RTup K B φ (L2.upd H D u) k y xs := by
  rcases r with ⟨r, b, n⟩ | r
  · exact .inl ⟨by rw [zV (show y ≠ D from fun z => b (z ▸ hD))]; exact r, b, n⟩
  · exact .inr r
mutual
theorem RepV.skip {D : Addr} {u : HO} (hD : B D) : ∀ (v : PV) (x : V), RepV K cl B φ H v x -> RepV K cl B φ (L2.upd H D u) v x
  | .non, x, h => by simp only [RepV] at h ⊢; exact h
  | .bl b, x, h => by simp only [RepV] at h ⊢; exact h
  | .int i, x, h => by simp only [RepV] at h ⊢; exact h
  | .str y, x, h => by simp only [RepV] at h ⊢; exact h
  | .tp k vs, x, h => by
    simp only [RepV] at h ⊢
    obtain ⟨y, xs, e, r, l⟩ := h
    exact ⟨y, xs, e, r.skip hD, RepL.skip hD vs xs l⟩
  | .lst vs, x, h => by
    simp only [RepV] at h ⊢
    obtain ⟨y, xs, e, ⟨r, b, n⟩, l⟩ := h
    exact ⟨y, xs, e, ⟨by rw [zV (show y ≠ D from fun z => b (z ▸ hD))]; exact r, b, n⟩, RepL.skip hD vs xs l⟩
  | .loc n, x, h => by simp only [RepV] at h ⊢; exact h
  | .exn c, x, h => by
    simp only [RepV] at h ⊢
    obtain ⟨y, e, r, b, n⟩ := h
    exact ⟨y, e, by rw [zV (show y ≠ D from fun z => b (z ▸ hD))]; exact r, b, n⟩
  | .scr vs, x, h => by
    simp only [RepV] at h ⊢
    obtain ⟨y, xs, e, r, l⟩ := h
    refine ⟨y, xs, e, ?_, RepL.skip hD vs xs l⟩
    rcases r with ⟨r, b, n⟩ | r
    · refine .inl ⟨?_, b, n⟩
      have ne : y ≠ D := fun z => b (z ▸ hD)
      rcases r with r | ⟨o, r⟩
      · exact .inl (by rw [zV ne]; exact r)
      · exact .inr ⟨o, by rw [zV ne]; exact r⟩
    · exact .inr r
theorem RepL.skip {D : Addr} {u : HO} (hD : B D) : ∀ (v : List PV) (x : List V), RepL K cl B φ H v x -> RepL K cl B φ (L2.upd H D u) v x
  | [], x, h => by simp only [RepL] at h ⊢; exact h
  | v :: vs, x, h => by
    simp only [RepL] at h ⊢
    obtain ⟨y, ys, e, r, l⟩ := h
    exact ⟨y, ys, e, RepV.skip hD v y r, RepL.skip hD vs ys l⟩
end
theorem DK.skip {D : Addr} {u : HO} (hD : B D) : ∀ {kvs : List (PV × PV)} {ks : List (Key × V)}, DK K cl B φ H kvs ks -> DK K cl B φ (L2.upd H D u) kvs ks
  | [], ks, h => h
  | (k, v) :: r, ks, h => by
    obtain ⟨q, x, t, e, m, rv, l⟩ := h
    exact ⟨q, x, t, e, m, rv.skip hD, DK.skip hD l⟩
theorem DT.skip {D : Addr} {u : HO} (hD : B D) : ∀ {kvs : List (PV × PV)} {ks : List (List Key × V)}, DT K cl B φ H kvs ks -> DT K cl B φ (L2.upd H D u) kvs ks
  | [], ks, h => h
  | (k, v) :: r, ks, h => by
    obtain ⟨q, x, t, e, m, rv, l⟩ := h
    exact ⟨q, x, t, e, m, rv.skip hD, DT.skip hD l⟩
theorem RepS.skip {D : Addr} {u : HO} (hD : B D) (rs : RepS K cl B φ H st) : RepS K cl B φ (L2.upd H D u) st := by
  refine ⟨rs.len, rs.inj, fun n y e => ?_, rs.liv, rs.nb, fun y h => ?_⟩
  · obtain ⟨o, q, r⟩ := rs.obj n y e
    have ne : y ≠ D := fun z => rs.nb y (List.mem_of_getElem? e) (z ▸ hD)
    refine ⟨o, q, ?_⟩
    cases o with
    | lst vs =>
      obtain ⟨xs, hx, l⟩ := r
      exact ⟨xs, by rw [zV ne]; exact hx, l.skip hD⟩
    | dct t kvs =>
      cases t with
      | false =>
        obtain ⟨xs, hx, l⟩ := r
        exact ⟨xs, by rw [zV ne]; exact hx, l.skip hD⟩
      | true =>
        obtain ⟨xs, hx, l⟩ := r
        exact ⟨xs, by rw [zV ne]; exact hx, l.skip hD⟩
    | dead => exact r.elim
  · by_cases z : y = D
    · subst z; exact ⟨u, zar⟩
    · obtain ⟨w, e⟩ := rs.dom y h
      exact ⟨w, by rw [zV z]; exact e⟩
theorem RepE.skip {D : Addr} {u : HO} (hD : B D) (re : RepE K cl B φ H ρ σ) : RepE K cl B φ (L2.upd H D u) ρ σ := ⟨re.len, fun i v e => by
  obtain ⟨x, h, q⟩ := re.get i v e
  exact ⟨x, h, q.skip hD⟩⟩
def Bx (B : Addr -> Prop) (D : Addr) : Addr -> Prop := fun y => B y \/ y = D
theorem zl0 {D : Addr} (hn : H D = none) : ∀ y, Bx B D y -> B y \/ H y = none := fun y z => z.elim .inl fun q => .inr (q ▸ hn)
theorem RepV.more {D : Addr} (hn : H D = none) {v : PV} {x : V} (h : RepV K cl B φ H v x) : RepV K cl (Bx B D) φ H v x := h.moreB (zl0 hn)
theorem RepL.more {D : Addr} (hn : H D = none) {v : List PV} {x : List V} (h : RepL K cl B φ H v x) : RepL K cl (Bx B D) φ H v x := h.moreB (zl0 hn)
mutual
theorem RepV.less {D : Addr} : ∀ (v : PV) (x : V), RepV K cl (Bx B D) φ H v x -> RepV K cl B φ H v x
  | .non, x, h => by simp only [RepV] at h ⊢; exact h
  | .bl b, x, h => by simp only [RepV] at h ⊢; exact h
  | .int i, x, h => by simp only [RepV] at h ⊢; exact h
  | .str y, x, h => by simp only [RepV] at h ⊢; exact h
  | .tp k vs, x, h => by
    simp only [RepV] at h ⊢
    obtain ⟨y, xs, e, r, l⟩ := h
    refine ⟨y, xs, e, ?_, RepL.less vs xs l⟩
    rcases r with ⟨r, b, n⟩ | r
    · exact .inl ⟨r, fun z => b (.inl z), n⟩
    · exact .inr r
  | .lst vs, x, h => by
    simp only [RepV] at h ⊢
    obtain ⟨y, xs, e, ⟨r, b, n⟩, l⟩ := h
    exact ⟨y, xs, e, ⟨r, fun z => b (.inl z), n⟩, RepL.less vs xs l⟩
  | .loc n, x, h => by simp only [RepV] at h ⊢; exact h
  | .exn c, x, h => by
    simp only [RepV] at h ⊢
    obtain ⟨y, e, r, b, n⟩ := h
    exact ⟨y, e, r, fun z => b (.inl z), n⟩
  | .scr vs, x, h => by
    simp only [RepV] at h ⊢
    obtain ⟨y, xs, e, r, l⟩ := h
    refine ⟨y, xs, e, ?_, RepL.less vs xs l⟩
    rcases r with ⟨r, b, n⟩ | r
    · exact .inl ⟨r, fun z => b (.inl z), n⟩
    · exact .inr r
theorem RepL.less {D : Addr} : ∀ (v : List PV) (x : List V), RepL K cl (Bx B D) φ H v x -> RepL K cl B φ H v x
  | [], x, h => by simp only [RepL] at h ⊢; exact h
  | v :: vs, x, h => by
    simp only [RepL] at h ⊢
    obtain ⟨y, ys, e, r, l⟩ := h
    exact ⟨y, ys, e, RepV.less v y r, RepL.less vs ys l⟩
end
theorem DK.more {D : Addr} (hn : H D = none) : ∀ {kvs : List (PV × PV)} {ks : List (Key × V)}, DK K cl B φ H kvs ks -> DK K cl (Bx B D) φ H kvs ks
  | [], ks, h => h
  | (k, v) :: r, ks, h => by
    obtain ⟨q, x, t, e, m, rv, l⟩ := h
    exact ⟨q, x, t, e, m, rv.more hn, DK.more hn l⟩
theorem DT.more {D : Addr} (hn : H D = none) : ∀ {kvs : List (PV × PV)} {ks : List (List Key × V)}, DT K cl B φ H kvs ks -> DT K cl (Bx B D) φ H kvs ks
  | [], ks, h => h
  | (k, v) :: r, ks, h => by
    obtain ⟨q, x, t, e, m, rv, l⟩ := h
    exact ⟨q, x, t, e, m, rv.more hn, DT.more hn l⟩
theorem DK.less {D : Addr} : ∀ {kvs : List (PV × PV)} {ks : List (Key × V)}, DK K cl (Bx B D) φ H kvs ks -> DK K cl B φ H kvs ks
  | [], ks, h => h
  | (k, v) :: r, ks, h => by
    obtain ⟨q, x, t, e, m, rv, l⟩ := h
    exact ⟨q, x, t, e, m, rv.less, DK.less l⟩
theorem DT.less {D : Addr} : ∀ {kvs : List (PV × PV)} {ks : List (List Key × V)}, DT K cl (Bx B D) φ H kvs ks -> DT K cl B φ H kvs ks
  | [], ks, h => h
  | (k, v) :: r, ks, h => by
    obtain ⟨q, x, t, e, m, rv, l⟩ := h
    exact ⟨q, x, t, e, m, rv.less, DT.less l⟩
theorem RepS.less {D : Addr} (rs : RepS K cl (Bx B D) φ H st) : RepS K cl B φ H st := by
  refine ⟨rs.len, rs.inj, fun n y e => ?_, rs.liv, fun y h z => rs.nb y h (.inl z), fun y h => rs.dom y (.inl h)⟩
  obtain ⟨o, q, r⟩ := rs.obj n y e
  refine ⟨o, q, ?_⟩
  cases o with
  | lst vs => obtain ⟨xs, hx, l⟩ := r; exact ⟨xs, hx, l.less⟩
  | dct t kvs => cases t <;> (obtain ⟨xs, hx, l⟩ := r; exact ⟨xs, hx, l.less⟩)
  | dead => exact r.elim
theorem RepS.more {D : Addr} {u : HO} (hn : H D = none) (rs : RepS K cl B φ H st) : RepS K cl (Bx B D) φ (L2.upd H D u) st := by
  have nD : some D ∉ φ := fun z => by
    obtain ⟨w, e⟩ := rs.there z
    rw [hn] at e; cases e
  have s : Step φ H φ (L2.upd H D u) := .upd hn
  have rs' := rs.upd (o := u) hn
  refine ⟨rs.len, rs.inj, fun n y e => ?_, rs.liv, fun y h z => z.elim (rs.nb y h) fun q => nD (q ▸ h), fun y h => ?_⟩
  · obtain ⟨o, q, r⟩ := rs.obj n y e
    have ne : y ≠ D := fun z => nD (z ▸ List.mem_of_getElem? e)
    have hD : Bx B D D := .inr rfl
    refine ⟨o, q, ?_⟩
    cases o with
    | lst vs => obtain ⟨xs, hx, l⟩ := r; exact ⟨xs, by rw [zV ne]; exact hx, (l.more hn).skip hD⟩
    | dct t kvs =>
      cases t with
      | false => obtain ⟨xs, hx, l⟩ := r; exact ⟨xs, by rw [zV ne]; exact hx, (l.more hn).skip hD⟩
      | true => obtain ⟨xs, hx, l⟩ := r; exact ⟨xs, by rw [zV ne]; exact hx, (l.more hn).skip hD⟩
    | dead => exact r.elim
  · rcases h with h | h
    · exact rs'.dom y h
    · subst h; exact ⟨u, zar⟩
theorem RepE.more {D : Addr} {u : HO} (hn : H D = none) (re : RepE K cl B φ H ρ σ) : RepE K cl (Bx B D) φ (L2.upd H D u) ρ σ := ⟨re.len, fun i v e => by
  obtain ⟨x, h, q⟩ := re.get i v e
  exact ⟨x, h, (q.more hn).skip (.inr rfl)⟩⟩
def tgtFree : Tg -> List (Option Nat) -> Bool
  | .n i, sl => decide (sl[i]? = some none)
  | .t l, sl => l.all fun i => decide (sl[i]? = some none)
theorem zjp : ∀ (l : List Nat) (vs : List PV) (ρ : IC.Env) (j : Nat), j ∉ l -> ((l.zip vs).foldl (fun ρ p => ρ.set p.1 (some p.2)) ρ)[j]? = ρ[j]?
  | [], vs, ρ, j, h => by simp
  | i :: is, [], ρ, j, h => by simp
  | i :: is, v :: vs, ρ, j, h => by
    simp only [List.zip_cons_cons, List.foldl_cons]
    rw [zjp is vs _ j fun z => h (List.mem_cons_of_mem _ z), List.getElem?_set_ne]
    rintro rfl
    exact h List.mem_cons_self
theorem zjE : ∀ (l : List Nat) (vs : List PV) (ρ : IC.Env), ((l.zip vs).foldl (fun ρ p => ρ.set p.1 (some p.2)) ρ).length = ρ.length
  | [], vs, ρ => by simp
  | i :: is, [], ρ => by simp
  | i :: is, v :: vs, ρ => by
    simp only [List.zip_cons_cons, List.foldl_cons]
    rw [zjE is vs, List.length_set]
theorem RepE.untgt {sl : List (Option Nat)} {ρ0 ρ1 : IC.Env} {v : PV} (hf : tgtFree ct sl = true) (h0 : ∀ (i : Nat), sl[i]? = some none -> ρ0[i]? = some none) (hb : bindT ct v ρ0 = some ρ1) (re : RepE K cl B φ H ρ1 σ) : RepE K cl B φ H ρ0 σ := by
  cases ct with
  | n i =>
    cases hb
    simp only [tgtFree, decide_eq_true_eq] at hf
    refine ⟨by rw [<- re.len, List.length_set], fun j w e => re.get j w ?_⟩
    rw [List.getElem?_set_ne]
    · exact e
    · rintro rfl
      rw [h0 _ hf] at e; cases e
  | t l =>
    cases v with
    | tp k vs =>
      simp only [bindT] at hb
      split at hb
      · cases hb
        simp only [tgtFree, List.all_eq_true, decide_eq_true_eq] at hf
        refine ⟨by rw [<- re.len, zjE], fun j w e => re.get j w ?_⟩
        rw [zjp]
        · exact e
        · intro z
          rw [h0 _ (hf j z)] at e; cases e
      · cases hb
    | _ => cases hb
theorem RepE.inn {sl : List (Option Nat)} (re : RepE K cl B φ H ρ σ) : RepE K cl B φ H (sl.map fun o => o.bind fun j => (ρ[j]?).join) (L2.inn sl σ) := by
  unfold L2.inn
  refine ⟨by simp, fun i v e => ?_⟩
  rw [List.getElem?_map] at e ⊢
  cases q : sl[i]? with
  | none => rw [q] at e; cases e
  | some o =>
    rw [q] at e
    cases o with
    | none => cases e
    | some j =>
      simp only [Option.map_some, Option.bind_some, Option.some.injEq] at e ⊢
      cases q2 : ρ[j]? with
      | none => rw [q2] at e; cases e
      | some w =>
        rw [q2] at e
        simp only [Option.join_some] at e
        subst e
        obtain ⟨x, hx, rv⟩ := re.get j v q2
        exact ⟨x, by rw [hx]; rfl, rv⟩
theorem million1 : 1000000 < sizeLine := by rw [sizeLine_eq]; decide
theorem zpZ {α : Type} {o : Option Bool} {k : Bool -> R α} {z : α} {s : Store} (h : onO o k = .ok z s) : ∃ b, o = some b /\ k b = .ok z s := by
  cases o with
  | none => cases h
  | some b => exact ⟨b, rfl, h⟩
theorem zdc {α β : Type} {r : R α} {k : α -> Store -> R β} {z : β} {s : Store} (h : r.bind k = .ok z s) : ∃ a s1, r = .ok a s1 /\ k a s1 = .ok z s := by
  cases r with
  | ok a s1 => exact ⟨a, s1, rfl, h⟩
  | exc c s => cases h
  | bad => cases h
theorem zlt {sl : List (Option Nat)} (hf : tgtFree ct sl = true) {H : Hp} {Q : VK} (h : tE S X (.comp sl ct ci cc ce) σ H Q) : tComp sl (tI S X ci) (tG0 S X.K ct) (tT0 S X.K cc) (tE0 S X.K ce) σ H Q := by
    obtain ⟨B, φ, st, ρ, rs, re, h⟩ := h
    simp only [ev] at h
    refine ⟨B, φ, st, ρ, rs, re, (Run.bind h).mono fun J H1 ⟨xs, st1, φ1, s1, rs1, dr, h1⟩ => fun D hD => ?_⟩
    generalize hone : (fun (x : PV) (st2 : Store) => match bindT ct x (sl.map fun o => o.bind fun j => (ρ[j]?).join) with
      | none => (R.bad : R (Option PV))
      | some ρ1 => (ev S.call ρ1 st2 cc).bind fun b st3 => onO (truV st3 b) fun k => cond k ((ev S.call ρ1 st3 ce).bind fun y st4 => .ok (some y) st4) (.ok none st3)) = one at h1
    cases e : compL one xs st1 with
    | exc k s => rw [e] at h1; exact h1.elim
    | bad => rw [e] at h1; exact h1.elim
    | ok zs st5 =>
      rw [e] at h1
      simp only [lstR] at h1
      split at h1
      case isFalse => exact h1.elim
      rename_i hz
      have nB : ¬ B D := rs1.nB hD
      have nD : some D ∉ φ1 := fun z => by
        obtain ⟨w, e⟩ := rs1.there z
        rw [hD] at e; cases e
      refine ⟨fun i m σc ys H2 => ∃ φ2 st2 vs rest, i + m = xs.length /\ Step φ1 H1 φ2 H2 /\ H2 D = some (.lst ys) /\ some D ∉ φ2 /\ RepS X.K S.cl (Bx B D) φ2 H2 st2 /\ RepE X.K S.cl (Bx B D) φ2 H2 (sl.map fun o => o.bind fun j => (ρ[j]?).join) σc /\
          RepL X.K S.cl (Bx B D) φ2 H2 vs ys /\ compL one (xs.drop i) st2 = .ok rest st5 /\ vs ++ rest = zs,
        ⟨xs.length, φ1, st1, [], zs, by omega, .upd hD, zar, nD, rs1.more hD, (RepE.inn (re.step s1)).more hD, by simp only [RepL], by simpa using e, rfl⟩, ?_⟩
      rintro i m σc ys H2 ⟨φ2, st2, vs, rest, hm, s2, hD2, nD2, rs2, re2, l2, ec, ez⟩
      refine ⟨hD2, ?_⟩
      by_cases hi : i < xs.length
      · have hl2 := l2.length
        have hml := million1
        have hzl := congrArg List.length ez
        rw [List.length_append] at hzl
        refine .inr ⟨dr.go i φ2 H2 s2 hi, by omega, fun σ' ys' H' => ∃ φ2 st2 vs rest, Step φ1 H1 φ2 H' /\ H' D = some (.lst ys') /\ some D ∉ φ2 /\ RepS X.K S.cl (Bx B D) φ2 H' st2 /\ RepE X.K S.cl (Bx B D) φ2 H' (sl.map fun o => o.bind fun j => (ρ[j]?).join) σ' /\
          RepL X.K S.cl (Bx B D) φ2 H' vs ys' /\ compL one (xs.drop (i + 1)) st2 = .ok rest st5 /\ vs ++ rest = zs, fun σ' ys' H' ⟨φ2, st2, vs, rest, q⟩ => ⟨m - 1, by omega, φ2, st2, vs, rest, by omega, q⟩, fun x H3 hy => ?_⟩
        obtain ⟨v, hv, rv, kk⟩ := dr.yld i φ2 H2 st2 x H3 (Bx B D) (fun y z => z.elim .inl fun q => .inr (q ▸ hD)) s2 rs2 hi hy
        have s3 : Step φ2 H2 φ2 H3 := ⟨fun b o _ e => kk b o e, Nat.le_refl _, fun _ _ _ e => e, fun _ h => .inl h⟩
        have rs3 : RepS X.K S.cl (Bx B D) φ2 H3 st2 := rs2.same kk
        have ed : xs.drop i = v :: xs.drop (i + 1) := by
          rw [List.drop_eq_getElem_cons hi]
          rw [List.getElem?_eq_getElem hi] at hv
          rw [Option.some.inj hv]
        rw [ed, compL] at ec
        obtain ⟨o, st3, e1, ec⟩ := zdc ec
        obtain ⟨rest', st4, e2, ec⟩ := zdc ec
        rw [<- hone] at e1
        dsimp only at e1
        cases eb : bindT ct v (sl.map fun o => o.bind fun j => (ρ[j]?).join) with
        | none => rw [eb] at e1; cases e1
        | some ρ1 =>
          rw [eb] at e1
          dsimp only at e1
          obtain ⟨bv, st6, e3, e1⟩ := zdc e1
          obtain ⟨k, e4, e1⟩ := zpZ e1
          have er : st4 = st5 /\ consO o rest' = rest := by
            injection ec with q1 q2
            exact ⟨q2, q1⟩
          obtain ⟨rfl, rfl⟩ := er
          refine ⟨Bx B D, φ2, st2, _, v, ρ1, rs3, re2.step s3, rv, eb, fun σ4 re4 => ⟨Bx B D, φ2, st2, ρ1, rs3, re4, ?_⟩⟩
          have et : truR (ev S.call ρ1 st2 cc) = .ok k st6 := by
            rw [e3]
            simp only [truR, R.bind, e4, onO]
          rw [et]
          rintro k' H5 φ5 s5 rs5 rfl
          have nD5 : some D ∉ φ5 := fun z => by
            rcases s5.new D z with q | q
            · exact nD2 q
            · rw [kk D _ hD2] at q; cases q
          have hD5 : H5 D = some (.lst ys) := s5.keep D _ nD2 (kk D _ hD2)
          have s25 : Step φ1 H1 φ5 H5 := s2.trans (s3.trans s5)
          have l5 := (l2.step s3).step s5
          have re5 : RepE X.K S.cl (Bx B D) φ5 H5 ρ1 σ4 := re4.step s5
          have h0 : ∀ (i : Nat), sl[i]? = some none -> (sl.map fun o => o.bind fun j => (ρ[j]?).join)[i]? = some none := fun i q => by
            rw [List.getElem?_map, q]; rfl
          cases k with
          | false =>
            simp only [cond_false] at e1
            cases e1
            exact ⟨φ5, _, vs, rest', s25, hD5, nD5, rs5, RepE.untgt hf h0 eb re5, l5, e2, ez⟩
          | true =>
            simp only [cond_true] at e1
            obtain ⟨y, st7, e5, e1⟩ := zdc e1
            cases e1
            refine ⟨Bx B D, φ5, st6, ρ1, rs5, re5, ?_⟩
            rw [e5]
            intro y' H6 φ6 s6 rs6 ry
            have nD6 : some D ∉ φ6 := fun z => by
              rcases s6.new D z with q | q
              · exact nD5 q
              · rw [hD5] at q; cases q
            have hD6 : H6 D = some (.lst ys) := s6.keep D _ nD5 hD5
            have hBD : Bx B D D := .inr rfl
            refine ⟨hD6, φ6, _, vs ++ [y], rest', ?_, zar, nD6, rs6.skip hBD, (RepE.untgt hf h0 eb (re5.step s6)).skip hBD, ((l5.step s6).append (by simp only [RepL]; exact ⟨y', [], rfl, ry, rfl⟩)).skip hBD, e2, ?_⟩
            · have s16 := s25.trans s6
              exact ⟨fun b o n q => by rw [zV (z7 q hD)]; exact s16.keep b o n q, s16.len, s16.pre, s16.new⟩
            · simpa [consO] using ez
      · have ei : i = xs.length := by omega
        subst ei
        rw [List.drop_length, compL] at ec
        cases ec
        refine .inl ⟨dr.stop φ2 H2 s2, h1 (.ref D) H2 φ2 s2 rs2.less ?_⟩
        simp only [RepV]
        exact ⟨D, ys, rfl, ⟨hD2, nB, nD2⟩, by rw [<- ez, List.append_nil]; exact l2.less⟩
theorem zd2 {sc : Scope} {NC : List Str} {sl : List (Option Nat)} {ifs : List Expr} (hc : X.calm = true) (O : CompOk X sc NC sl) (hf : tgtFree ct sl = true) (hi : PI X tg iter (tI S X ci)) (hg : ∀ j, PG (cxC X sc NC j) tg (tG0 S X.K ct))
    (ht : ∀ j, PTs (cxC X sc NC j) ifs (tT0 S X.K cc)) (he : ∀ j, PE (cxC X sc NC j) elt (tE0 S X.K ce)) (hs : ∀ x, foldedSetIterable iter X.env x = pure x := by intro _; rfl) :
    PE X (.ListComp elt [⟨tg, iter, ifs, 0⟩] sc pos) (tE S X (.comp sl ct ci cc ce)) :=
  (zoJ hc O hi hg ht he hs).imp fun σ H Q h => zlt hf h
end
end L2
namespace L2
open PySem PySem.Spec PyProof.Rows IC
def spI (K : PySem.W.Frag) (cl : Nat -> Addr) (call : Nat -> List PV -> Store -> R PV) (f : Nat) : Sp := fun vs H Q E => ∃ B φ st args, RepS K cl B φ H st /\ RepL K cl B φ H args vs /\ match call f args st with
  | .ok v st' => ∀ x H' φ', Step φ H φ' H' -> RepS K cl B φ' H' st' -> RepV K cl B φ' H' v x -> Q x H'
  | .exc c st' => ∀ H' φ', Step φ H φ' H' -> RepS K cl B φ' H' st' -> E (.ref (cl c)) none H'
  | .bad => False
section
variable {S : Se} {X : Cx} {k : Nat} {f : Addr} {fd : FuncData} {ps ks : List Str} {sp : Sp} {dvs : List V} {ds : List Value} {x : Str} {p pos : Pos} {e : Expr} {es : List Expr} {t tk : TA} {CX : CXT} {σ : St} {H : Hp}
theorem zk3 {pins : List (Addr × Obj)} {s : Shared} {Q : VK} {us : List Value} {vs : List V} {E : XK} (F : FnOk X.prog X.w X.K X.mg X.base CX k f fd ps sp) (hr : Room k X.A) (hb : Binds X.K fd ps ds) (hd : Vals dvs ds)
    (I : Inv X pins σ H s) (r : Vals vs us) (h : sp (vs ++ dvs) H Q E) (hx : ∀ e s', CX X.stack H s E e s' -> X.xe e s') : wpAny (model X.prog X.w) X.A (call (.ref f) us) (EP X pins σ Q) X.xe s := by
  have r2 : Vals (vs ++ dvs) (us ++ ds) := r.append hd
  have hl : (us ++ ds).length = ps.length := by rw [<- r2.length]; exact F.len _ _ _ _ h
  refine wpAny_call (codeAny_mono (F.run X.A X.stack s H ⟨us, []⟩ (us ++ ds) (vs ++ dvs) Q E hr I.env0 (hb s us I.kIn hl) r2 h) fun r s' hq => ?_)
  cases r with
  | error e => exact hx e s' hq
  | ok fl =>
    cases fl with
    | ret u => exact I.after hq
    | next => exact False.elim hq
    | brk => exact False.elim hq
    | cont => exact False.elim hq
def tCallS (CX : CXT) (X : Cx) (sp : Sp) (dvs : List V) (t : TA) : TE := fun σ H Q => t σ H fun vs H1 => ∃ E : XK, sp (vs ++ dvs) H1 Q E /\ ∀ pins s e s', Inv X pins σ H1 s -> CX X.stack H1 s E e s' -> X.xe e s'
theorem znb (F : FnOk X.prog X.w X.K X.mg X.base CX k f fd ps sp) (hr : Room k X.A) (hg : Gl X x) (hm : X.mg x = some (.ref f)) (hk : PySem.W.keepIn X.K (.ref f) = true) (hb : Binds X.K fd ps ds) (hd : Vals dvs ds)
    (ha : PA X (e :: es) t) (hdb : (x == ("__debug__" : Str)) = false := by decide) (he : starEach (e :: es) X.env = (false, eval e X.env) :: starEach es X.env := by rfl) (hpl : (backTo pos (starEach es X.env)).any (·.1) = false := by rfl) :
    PE X (.Call (.Name x p) (e :: es) [] pos) (tCallS CX X sp dvs t) := by
  intro pins s σ H Q I h
  refine wpAny_Call_Name_kw (zhj I hg hm ?_ hdb)
  refine PySem.W.callWith_K (h₀ := X.base) I.ok.mod.kin hk (thn (ha pos pins s σ H _ I h) fun us s1 ⟨vs, H1, I1, r, E, q, hx⟩ => ⟨I1.kIn, ?_⟩) he hpl
  exact zk3 F hr hb hd I1 r q fun e s' c => hx pins s1 e s' I1 c
theorem zk9 (F : FnOk X.prog X.w X.K X.mg X.base CX k f fd ps sp) (hr : Room k X.A) (hg : Gl X x) (hm : X.mg x = some (.ref f)) (hk : PySem.W.keepIn X.K (.ref f) = true) (hb : Binds X.K fd ps ds) (hd : Vals dvs ds)
    (hdb : (x == ("__debug__" : Str)) = false := by decide) : PE X (.Call (.Name x p) [] [] pos) (tCallS CX X sp dvs tNil) := by
  intro pins s σ H Q I h
  obtain ⟨E, q, hx⟩ := h
  refine wpAny_Call_Name_kw (zhj I hg hm ?_ hdb)
  exact PySem.W.callWith_K0 I.kIn hk (zk3 F hr hb hd I .nil q fun e s' c => hx pins s e s' I c)
variable {B : Addr -> Prop} {φ : Ph} {st : Store} {ces : Ces} {fi : Nat}
theorem zfY {vs : List PV} {xs : List V} {Q : VK} (rs : RepS X.K S.cl B φ H st) (l : RepL X.K S.cl B φ H vs xs) (h : Run S X σ B φ H (RV S X B) (S.call fi vs st) Q) :
    ∃ E : XK, spI X.K S.cl S.call fi xs H Q E /\ ∀ pins s e s', Inv X pins σ H s -> CX1 X.prog X.w X.stack H s E e s' -> X.xe e s' := by
  cases c : S.call fi vs st with
  | ok v st' =>
    rw [c] at h
    refine ⟨fun _ _ _ => False, ⟨B, φ, st, vs, rs, l, by rw [c]; exact h⟩, fun pins s e s' _ z => ?_⟩
    obtain ⟨_, _, _, _, _, _, _, _, _, _, _, _, _, _, z⟩ := z
    exact z.elim
  | exc k st' =>
    rw [c] at h
    refine ⟨fun cls _ H' => cls = .ref (S.cl k) /\ ∃ φ', Step φ H φ' H' /\ RepS X.K S.cl B φ' H' st', ⟨B, φ, st, vs, rs, l, by rw [c]; exact fun H' φ' s r => ⟨rfl, φ', s, r⟩⟩, fun pins s e s' I z => h e s' (.inl ⟨pins, H, s, φ, I, .rfl, z⟩)⟩
  | bad => rw [c] at h; exact h.elim
theorem zf (F : FnOk X.prog X.w X.K X.mg X.base (CX1 X.prog X.w) k f fd ps (spI X.K S.cl S.call fi)) (hr : Room k X.A) (hg : Gl X x) (hm : X.mg x = some (.ref f)) (hk : PySem.W.keepIn X.K (.ref f) = true) (hb : Binds X.K fd ps [])
    (ha : PA X (e :: es) (tAs S X ces)) (hdb : (x == ("__debug__" : Str)) = false := by decide) (he : starEach (e :: es) X.env = (false, eval e X.env) :: starEach es X.env := by rfl) (hpl : (backTo pos (starEach es X.env)).any (·.1) = false := by rfl) :
    PE X (.Call (.Name x p) (e :: es) [] pos) (tE S X (.call fi ces)) :=
  (znb F hr hg hm hk hb .nil ha hdb he hpl).imp fun σ H Q ⟨B, φ, st, ρ, rs, re, h⟩ => by
    simp only [ev] at h
    refine tAs.bind rs re h fun xs H1 vs st1 φ1 s1 rs1 re1 rv h1 => ?_
    rw [List.append_nil]
    exact zfY rs1 rv h1
theorem zfy (F : FnOk X.prog X.w X.K X.mg X.base (CX1 X.prog X.w) k f fd ps (spI X.K S.cl S.call fi)) (hr : Room k X.A) (hg : Gl X x) (hm : X.mg x = some (.ref f)) (hk : PySem.W.keepIn X.K (.ref f) = true) (hb : Binds X.K fd ps [])
    (hdb : (x == ("__debug__" : Str)) = false := by decide) : PE X (.Call (.Name x p) [] [] pos) (tE S X (.call fi .nil)) :=
  (zk9 F hr hg hm hk hb .nil hdb).imp fun σ H Q ⟨B, φ, st, ρ, rs, re, h⟩ => by
    simp only [ev, evs, R.bind] at h
    exact zfY rs (by simp only [RepL]; rfl) h
end
section
variable {P : Program} {w : World} {K : PySem.W.Frag} {mg : Str -> Option Value} {base : Heap} {cl : Nat -> Addr} {T : Nat -> Option Fn} {fi : Nat} {fn : IC.Fn} {x qual : Str} {stm : Stmt} {f : Addr} {fd : FuncData} {N ps : List Str} {k : Nat}
theorem CX1.mono {outer : List PySem.Env} {H : Hp} {s : Shared} {E E' : XK} {e : Value} {s' : Shared} (h : CX1 P w outer H s E e s') (n : ∀ cls H', E cls none H' -> E' cls none H') : CX1 P w outer H s E' e s' := by
  obtain ⟨a, cls, a0, H', Bh, r1, r2, r3, r4, r5, r6, r7, r8, r9, r10⟩ := h
  exact ⟨a, cls, a0, H', Bh, r1, r2, r3, r4, r5, r6, r7, r8, r9, n _ _ r10⟩
theorem RepE.start {B : Addr -> Prop} {φ : Ph} {H : Hp} {args : List PV} {vs : List V} (l : RepL K cl B φ H args vs) (n : Nat) (hn : N.length - vs.length = n) : RepE K cl B φ H (args.map some ++ List.replicate n none) (L2.start N vs) := by
  have hl := l.length
  unfold L2.start
  refine ⟨by simp [hl, hn], fun i v e => ?_⟩
  by_cases hi : i < args.length
  · rw [List.getElem?_append_left (by simpa using hi), List.getElem?_map] at e
    cases q : args[i]? with
    | none => rw [q] at e; cases e
    | some v' =>
      rw [q] at e
      cases e
      obtain ⟨y, hy, rv⟩ := l.get i q
      exact ⟨y, by rw [List.getElem?_append_left (by simp; omega), List.getElem?_map, hy]; rfl, rv⟩
  · rw [List.getElem?_append_right (by simp; omega), List.getElem?_replicate] at e
    split at e <;> cases e
theorem leave {N : List Str} {scope : Scope} {cd : Value} {A : Around} {outer : List PySem.Env} {s₀ : Shared} {H₀ : Hp} {E : XK} {call : Nat -> List PV -> Store -> R PV} {σ : St} {B : Addr -> Prop} {φ : Ph} {H : Hp} {c : Nat} {st' : Store} {e : Value} {s' : Shared}
    (h : ExcAt ⟨cl, call, true⟩ (cxOf (CX1 P w) P w K mg base N qual scope f cd A outer s₀ H₀ E) σ B φ H c st' e s') (n : ∀ φ' H', Step φ H φ' H' -> RepS K cl B φ' H' st' -> E (.ref (cl c)) none H') :
    (cxOf (CX1 P w) P w K mg base N qual scope f cd A outer s₀ H₀ E).xe e s' := by
  rcases h with ⟨pins, H1, s, φ1, I, s1, q⟩ | ⟨_, pins, H1, s, φ1, h', e0, vs, I, s1, rs, mk, rfl, rfl⟩
  · exact pass1 pins σ H1 s e s' I (q.mono fun cls H' ⟨e1, φ', s2, r⟩ => by subst e1; exact n φ' H' (s1.trans s2) r)
  · exact zk2 I mk (n φ1 H1 s1 rs)
theorem znL (hT : T fi = some fn) : ∀ (args : List PV) (st : Store), callT T (k + 1) fi args st ≠ .bad -> args.length = fn.np := fun args st hne => by
  apply Classical.byContradiction
  intro c
  apply hne
  rw [callT, hT]
  exact if_neg c
theorem znV (hT : T fi = some fn) (hnp : ps.length = fn.np) {vs : List V} {H : Hp} {Q : VK} {E : XK} (h : spI K cl (callT T (k + 1)) fi vs H Q E) : vs.length = ps.length := by
  obtain ⟨B, φ, st, args, rs, l, h⟩ := h
  rw [hnp, <- l.length]
  refine znL (k := k) hT args st fun z => ?_
  rw [z] at h
  exact h
theorem zld (hT : T fi = some fn) (hns : N.length = fn.ns) {scope : Scope} {cdv : Value} {A : Around} {outer : List PySem.Env} {s : Shared} {vs : List V} {H : Hp} {Q : VK} {E : XK} (h : spI K cl (callT T (k + 1)) fi vs H Q E) :
    tSs ⟨cl, callT T k, true⟩ (cxOf (CX1 P w) P w K mg base N qual scope f cdv A outer s H E) fn.body { nx := fun _ H' => Q .non H', rt := Q } (L2.start N vs) H := by
  obtain ⟨B, φ, st, args, rs, l, h⟩ := h
  have hl : args.length = fn.np := znL (k := k) hT args st fun z => by rw [z] at h; exact h
  have hlen := l.length
  rw [callT, hT] at h
  dsimp only at h
  rw [if_pos hl] at h
  by_cases hp : fn.pure = true
  · rw [if_pos hp] at h
    by_cases hz : noLocs args = true
    · rw [if_pos hz] at h
      have rs0 : RepS K cl (fun a => B a \/ some a ∈ φ) [] H [] := ⟨rfl, fun m n a e => by simp at e, fun n a e => by simp at e, fun n o e => by simp at e, fun a z => by simp at z, fun a z => z.elim (rs.dom a) rs.there⟩
      have back : ∀ {φ' : Ph} {H' : Hp}, Step [] H φ' H' -> Step φ H φ H' /\ RepS K cl B φ H' st := fun {φ' H'} s' =>
        have kk : ∀ b o, H b = some o -> H' b = some o := fun b o e => s'.keep b o (by simp) e
        ⟨⟨fun b o _ e => kk b o e, Nat.le_refl _, fun _ _ _ e => e, fun _ h => .inl h⟩, rs.same kk⟩
      refine ⟨_, [], [], _, rs0, RepE.start (RepL.inn rs.nb args vs hz l) (fn.ns - fn.np) (by omega), ?_⟩
      show RunF _ _ _ _ _ (exs (callT T k) (args.map some ++ List.replicate (fn.ns - fn.np) none) [] fn.body) _
      cases e : exs (callT T k) (args.map some ++ List.replicate (fn.ns - fn.np) none) [] fn.body with
      | nx ρ' st' =>
        rw [e] at h
        intro σ' H' φ' s' rs' re'
        obtain ⟨s2, r2⟩ := back s'
        exact h .non H' φ s2 r2 (by simp only [RepV])
      | rt v st' =>
        rw [e] at h
        dsimp only at h
        by_cases hv : noLoc v = true
        · rw [if_pos hv] at h
          intro y H' φ' s' rs' rv
          obtain ⟨s2, r2⟩ := back s'
          exact h y H' φ s2 r2 (RepV.out v y hv rv)
        · rw [if_neg hv] at h
          exact h.elim
      | exc c ρ' st' =>
        rw [e] at h
        intro σ' φ1 H1 ev s' s1 _ ex
        refine leave ex fun φ2 H2 s2 _ => ?_
        obtain ⟨s3, r3⟩ := back (s1.trans s2)
        exact h H2 φ s3 r3
      | bk ρ' st' => rw [e] at h; exact h.elim
      | ct ρ' st' => rw [e] at h; exact h.elim
      | bad => rw [e] at h; exact h.elim
    · rw [if_neg hz] at h
      exact h.elim
  · rw [if_neg hp] at h
    refine ⟨B, φ, st, _, rs, RepE.start l (fn.ns - fn.np) (by omega), ?_⟩
    show RunF _ _ _ _ _ (exs (callT T k) (args.map some ++ List.replicate (fn.ns - fn.np) none) st fn.body) _
    cases e : exs (callT T k) (args.map some ++ List.replicate (fn.ns - fn.np) none) st fn.body with
    | nx ρ' st' =>
      rw [e] at h
      intro σ' H' φ' s' rs' re'
      exact h .non H' φ' s' rs' (by simp only [RepV])
    | rt v st' =>
      rw [e] at h
      intro y H' φ' s' rs' rv
      exact h y H' φ' s' rs' rv
    | exc c ρ' st' =>
      rw [e] at h
      intro σ' φ1 H1 ev s' s1 _ ex
      exact leave ex fun φ2 H2 s2 r2 => h H2 φ2 (s1.trans s2) r2
    | bk ρ' st' => rw [e] at h; exact h.elim
    | ct ρ' st' => rw [e] at h; exact h.elim
    | bad => rw [e] at h; exact h.elim
theorem zas (hT : T fi = some fn) (F : Fun K x qual stm f fd) (Sc : FnScope N ps (defScope stm)) (hnp : ps.length = fn.np) (hns : N.length = fn.ns)
    (body : ∀ (cdv : Value) (A : Around) (outer : List PySem.Env) (s : Shared) (H : Hp) (E : XK), Room k (A.deeper (envOfC qual (defScope stm) s.heap.objs.size f cdv)) ->
      PSs (cxOf (CX1 P w) P w K mg base N qual (defScope stm) f cdv A outer s H E) (defBody stm) (tSs ⟨cl, callT T k, true⟩ (cxOf (CX1 P w) P w K mg base N qual (defScope stm) f cdv A outer s H E) fn.body)) :
    FnOk P w K mg base (CX1 P w) (k + 1) f fd ps (spI K cl (callT T (k + 1)) fi) :=
  F.okX Sc (fun vs H Q E h => znV hT hnp h) fun cdv A outer s H vs Q E hr h => ⟨_, body cdv A outer s H E hr, zld hT hns h⟩
theorem zov (hps : ps = ps) : FnOk P w K mg base (CX1 P w) 0 f fd ps (spI K cl (callT T 0) fi) :=
  ⟨fun vs H Q E ⟨_, _, _, _, _, _, h⟩ => by rw [callT] at h; exact h.elim, fun A outer s H args us vs Q E _ _ _ _ ⟨_, _, _, _, _, _, h⟩ => by rw [callT] at h; exact h.elim⟩
end
end L2
namespace L2
open PySem PySem.Spec PyProof.Rows IC
def tyN : Ty -> String
  | .int => "int" | .bool => "bool" | .str => "str" | .tuple => "tuple" | .list => "list" | _ => ""
structure KitT (K : PySem.W.Frag) (t : Ty) : Prop where
  n : PySem.W.kitOne K (.type "NoneType") (.type (tyN t)) = some (isTy .non t)
  b : PySem.W.kitOne K (.type "bool") (.type (tyN t)) = some (isTy (.bl true) t)
  i : PySem.W.kitOne K (.type "int") (.type (tyN t)) = some (isTy (.int 0) t)
  s : PySem.W.kitOne K (.type "str") (.type (tyN t)) = some (isTy (.str Str.empty) t)
  p : PySem.W.kitOne K (.type "tuple") (.type (tyN t)) = some (isTy (.tp true []) t)
  l : PySem.W.kitOne K (.type "list") (.type (tyN t)) = some (isTy (.lst []) t)
section
variable {S : Se} {X : Cx} {σ : St} {B : Addr -> Prop} {φ : Ph} {H : Hp} {st : Store} {p pos p2 px : Pos} {a b c d o : Expr} {ca cb cc : Ce} {t : Ty}
def rIsi (S : Se) (X : Cx) (t : Ty) : List V -> Hp -> VK -> Prop := fun xs H Q => ∃ B φ st v x z, xs = [x, .ty (tyN t)] /\ RepS X.K S.cl B φ H st /\ RepV X.K S.cl B φ H v x /\ isiV v [t] = some z /\ isBl t = true /\
  ∀ z' H' φ', Step φ H φ' H' -> RepS X.K S.cl B φ' H' st -> RepV X.K S.cl B φ' H' z z' -> Q z' H'
theorem zp9 (Z : KitT X.K t) : CallR X (.builtin "isinstance") (rIsi S X t) := by
  rintro pins s σ H xs us Q I r ⟨B, φ, st, v, x, z, rfl, rs, rv, e, hb, q⟩
  obtain ⟨u, c', rfl, ru, rc⟩ := vals2 r
  cases (show c' = Value.type (tyN t) from rc)
  have fin : ∀ (k : Bool) (tk : Nat), z = .bl k -> EP X pins σ Q (.bool k) { s with toks := tk } := fun k tk ez => ⟨.bl k, H, I.tok tk, rfl, q _ H φ .rfl rs (by subst ez; simp only [RepV])⟩
  cases v with
  | non =>
    simp only [RepV] at rv; subst rv
    cases (show u = Value.none from ru)
    simp only [isiV, hb, if_true] at e
    exact PySem.W.kia_one PySem.W.kitx_none I.kIn True.intro Z.n (fun z => nomatch z) fun tk => fin _ tk (by cases e; cases t <;> rfl)
  | bl k =>
    simp only [RepV] at rv; subst rv
    cases (show u = Value.bool k from ru)
    simp only [isiV, hb, if_true] at e
    exact PySem.W.kia_one PySem.W.kitx_bool I.kIn True.intro Z.b (fun z => nomatch z) fun tk => fin _ tk (by cases e; cases t <;> rfl)
  | int k =>
    simp only [RepV] at rv; subst rv
    obtain ⟨tk, rfl⟩ := ru
    simp only [isiV, hb, if_true] at e
    exact PySem.W.kia_one PySem.W.kitx_int I.kIn True.intro Z.i (fun z => nomatch z) fun tk => fin _ tk (by cases e; cases t <;> rfl)
  | str k =>
    simp only [RepV] at rv; subst rv
    obtain ⟨tk, rfl⟩ := ru
    simp only [isiV, hb, if_true] at e
    exact PySem.W.kia_one PySem.W.kitx_str I.kIn True.intro Z.s (fun z => nomatch z) fun tk => fin _ tk (by cases e; cases t <;> rfl)
  | tp k vs =>
    simp only [RepV] at rv
    obtain ⟨y, ys, rfl, rt, l⟩ := rv
    cases (show u = Value.ref y from ru)
    simp only [isiV, hb, if_true] at e
    obtain ⟨its, _, ⟨o, g, c, _, _⟩, _⟩ := I.tuple rt.sq
    exact PySem.W.kia_one PySem.W.kitx_tuple I.kIn ⟨o, g, c⟩ Z.p (fun z => nomatch z) fun tk => fin _ tk (by cases e; cases t <;> rfl)
  | lst vs =>
    simp only [RepV] at rv
    obtain ⟨y, ys, rfl, rt, l⟩ := rv
    cases (show u = Value.ref y from ru)
    simp only [isiV, hb, if_true] at e
    obtain ⟨_, _, n, _, h1⟩ := (show ObjOk X.prog X.w H s.heap y (.lst ys) from I.hok y _ rt.1)
    exact PySem.W.kia_one PySem.W.kitx_list I.kIn ⟨_, h1, rfl⟩ Z.l (fun z => nomatch z) fun tk => fin _ tk (by cases e; cases t <;> rfl)
  | loc n => cases e
  | scr n => cases e
  | exn n => simp only [isiV, List.all_cons, List.all_nil, hb, Bool.and_self, if_true] at e; cases e
theorem zbX {T : Str} (Z : KitT X.K t) (ht : isBl t = true) (hg : Gl X "isinstance") (hm : X.mg "isinstance" = none) (hgT : Gl X T) (hmT : X.mg T = none) (hT : bootBuiltins T = some (.type (tyN t))) (ha : PE X a (tE S X ca)) (hnT : T ≠ "__name__" := by decide) (hdT : (T == ("__debug__" : Str)) = false := by decide)
    (he : starEach [a, .Name T p2] X.env = (false, eval a X.env) :: starEach [.Name T p2] X.env := by rfl) (hpl : (backTo pos (starEach [.Name T p2] X.env)).any (·.1) = false := by rfl) :
    PE X (.Call (.Name "isinstance" p) [a, .Name T p2] [] pos) (tE S X (.isi ca [t])) :=
  (zjM (zp9 Z) hg hm PyProof.Rows.boot_isinstance (zdf ha (zdf (zot (v := .ty (tyN t)) hgT hmT hT rfl hnT hdT) pa_nil) he) (by decide) (by decide) he hpl).imp fun σ H Q ⟨B, φ, st, ρ, rs, re, h⟩ => by
    simp only [ev] at h
    refine tE.bind rs re h fun x H1 v st1 φ1 s1 rs1 re1 rv h1 => ?_
    obtain ⟨z, e, q⟩ := zdm h1 rs1
    exact ⟨B, φ1, st1, v, x, z, rfl, rs1, rv, e, ht, q⟩
theorem zm4 {st4 : Store} {x y v : PV} (h : sixV st x y v = some st4) : ∃ n xs k j, x = .loc n /\ st[n]? = some (.lst xs) /\ y = .int k /\ ixI xs.length k = some j /\ st4 = st.set n (.lst (xs.set j v)) := by
  cases x with
  | loc n =>
    simp only [sixV] at h
    cases q : st[n]? with
    | none => rw [q] at h; cases h
    | some o =>
      rw [q] at h
      cases o with
      | lst xs =>
        cases y with
        | int k =>
          dsimp only at h
          cases q2 : ixI xs.length k with
          | none => rw [q2] at h; cases h
          | some j => rw [q2] at h; exact ⟨n, xs, k, j, rfl, q, rfl, q2, (Option.some.inj h).symm⟩
        | _ => cases h
      | _ => cases h
  | _ => cases h
theorem RepL.put {K : PySem.W.Frag} {cl : Nat -> Addr} : ∀ {vs : List PV} {xs : List V} (j : Nat) {v : PV} {x : V}, RepL K cl B φ H vs xs -> RepV K cl B φ H v x -> RepL K cl B φ H (vs.set j v) (xs.set j x)
  | [], xs, j, v, x, l, r => by simp only [RepL] at l; subst l; simp [RepL]
  | w :: vs, xs, 0, v, x, l, r => by
    simp only [RepL] at l
    obtain ⟨y, ys, rfl, _, l⟩ := l
    simp only [List.set_cons_zero, RepL]
    exact ⟨x, ys, rfl, r, l⟩
  | w :: vs, xs, j + 1, v, x, l, r => by
    simp only [RepL] at l
    obtain ⟨y, ys, rfl, ry, l⟩ := l
    simp only [List.set_cons_succ, RepL]
    exact ⟨y, ys.set j x, rfl, ry, RepL.put j l r⟩
theorem zgZ (he : PE X a (tE S X ca)) (ho : PE X b (tE S X cb)) (hi : PE X c (tE S X cc)) (hs : swapsWithSole [.Subscript b c px] a pos.line X.env = pure false := by rfl) (hw : swappedStores [.Subscript b c px] a X.env = pure none := by rfl)
    (hg : PG X (.Subscript b c px) (gSub (tE S X cb) (tE S X cc) rSetL) := by exact zfU ‹_› ‹_› zcP) : PS X (.Assign [.Subscript b c px] a pos) (tS S X (.six cb cc ca)) :=
  (zn0 he hg hs hw).imp fun D σ H ⟨B, φ, st, ρ, rs, re, h⟩ => by
    simp only [ex] at h
    refine tE.fl rs re h fun v' H1 v st1 φ1 s1 rs1 re1 rv h1 => tE.fl rs1 re1 h1 fun x' H2 x st2 φ2 s2 rs2 re2 rx h2 => tE.fl rs2 re2 h2 fun y' H3 y st3 φ3 s3 rs3 re3 ry h3 => ?_
    cases e : sixV st3 x y v with
    | none => rw [e] at h3; exact h3.elim
    | some st4 =>
      rw [e] at h3
      obtain ⟨n, xs, k, j, rfl, hn, rfl, hj, rfl⟩ := zm4 e
      simp only [RepV] at ry
      subst ry
      obtain ⟨l, ys, rfl, hp, hx, lr⟩ := rs3.list (rx.step s3) hn
      refine ⟨l, ys, k, j, rfl, rfl, hx, by rw [<- lr.length]; exact hj, ?_⟩
      have s4 : Step φ3 H3 φ3 (L2.upd H3 l (.lst (ys.set j v'))) := .put (List.mem_of_getElem? hp)
      exact h3 σ _ φ3 s4 (rs3.put hp ⟨_, zar, (lr.put j ((rv.step s2).step s3)).step s4⟩) (re3.step s4)
end
end L2
namespace L2
open PySem PySem.Spec PyProof.Rows IC
section
variable {S : Se} {X : Cx} {σ : St} {B : Addr -> Prop} {φ : Ph} {H : Hp} {st : Store} {p pos p2 px py pt pt2 apos : Pos} {a b c d o : Expr} {ca cb cc : Ce} {kt k2 : Nat}
theorem zpQ {i j : Nat} {x y : Str} (hc : X.calm = true) (hN : X.N.Nodup) (hi : X.N[i]? = some x) (hj : X.N[j]? = some y) (hij : i ≠ j) (h : PS X (.Assign [.Tuple [.Name x px, .Name y py] kt pt] (.Tuple [a, b] k2 pt2) pos) (tPar i j (tAs S X (.cons ca (.cons cb .nil))))) :
    PS X (.Assign [.Tuple [.Name x px, .Name y py] kt pt] (.Tuple [a, b] k2 pt2) pos) (tS S X (.asg (.t [i, j]) (.tup (.cons ca (.cons cb .nil))))) :=
  h.imp fun D σ H ⟨B, φ, st, ρ, rs, re, h⟩ => by
    simp only [ex, ev] at h
    refine ⟨B, φ, st, ρ, rs, re, ?_⟩
    cases e : evs S.call ρ st (.cons ca (.cons cb .nil)) with
    | bad => rw [e] at h; exact h
    | exc k st' => rw [e] at h; exact fun e s' x => h σ φ H e s' .rfl re x
    | ok vs st' =>
      rw [e] at h
      intro xs H' φ' s rs' l
      simp only [R.bind] at h
      split at h
      · rcases vs with _ | ⟨v, _ | ⟨w, _ | ⟨u, t⟩⟩⟩
        · exact h.elim
        · exact h.elim
        · obtain ⟨v', w', rfl, rv, rw⟩ := l.two
          refine ⟨v', w', rfl, ?_⟩
          exact h _ H' φ' s rs' (((re.step s).set i rv).set j rw)
        · exact h.elim
      · exact h.elim
theorem zoh {bo : BOp} {v w z : PV} (h : augV bo v w = some z) : ∃ i j, v = .int i /\ w = .int j /\ IC.binI bo i j = some z := by
  unfold augV at h
  split at h
  · exact ⟨_, _, rfl, rfl, h⟩
  · cases h
theorem zmo : PIp X .Add (rT2 S X (augV .add)) := by
  rintro pins s σ H x y v u Q I rx ry ⟨B, φ, st, a, b, z, rs, ra, rb, e, q⟩
  obtain ⟨i, j, rfl, rfl, e⟩ := zoh e
  cases e
  simp only [RepV] at ra rb
  subst ra rb
  exact zpG pins s σ H _ _ v u Q I rx ry ⟨i, j, rfl, rfl, q _ H φ .rfl rs (by simp only [RepV])⟩
end
end L2
namespace WK
open PySem L2 IC
structure Fn (K : PySem.W.Frag) (mg : Str -> Option Value) (x : Str) (st : Stmt) (ps : List Str) (f : Addr) (fd : FuncData) : Prop where
  F : Fun K x x st f fd
  b : Binds K fd ps []
  m : mg x = some (.ref f)
def GC (K : PySem.W.Frag) (mg : Str -> Option Value) (cl : Nat -> Addr) (x : Str) (v : PV) : Prop := ∃ y : Addr, mg x = some (.ref y) /\ ∀ B φ H, RepV K cl B φ H v (.ref y)
theorem zbE {S : Se} {X : Cx} {x : Str} {v : PV} {pos : Pos} (hg : Gl X x) (h : GC X.K X.mg S.cl x v) (hd : (x == ("__debug__" : Str)) = false := by decide) : PE X (.Name x pos) (tE S X (.cst v)) := by
  obtain ⟨y, hm, hk⟩ := h
  exact zoA hg hm hk hd
theorem zmq : bootBuiltins "int" = some (.type "int") := by decide +kernel
theorem zod : bootBuiltins "bool" = some (.type "bool") := by decide +kernel
theorem zn1 : bootBuiltins "str" = some (.type "str") := by decide +kernel
theorem zax : bootBuiltins "tuple" = some (.type "tuple") := by decide +kernel
theorem zaU : bootBuiltins "len" = some (.builtin "len") := by decide +kernel
theorem zqa : bootBuiltins "abs" = some (.builtin "abs") := by decide +kernel
theorem zpK : bootBuiltins "min" = some (.builtin "min") := by decide +kernel
theorem zid : bootBuiltins "all" = some (.builtin "all") := by decide +kernel
theorem zaf {k : Nat} {A : Around} (r : Room k A) : A.units + 1 < cLine := by have := r.units; omega
def VisAll (N : List Str) (sc : Scope) : Prop := (N.all fun x => decide (sc.names.lookup x = some .local) || decide (sc.names.lookup x = some .cell)) = true
theorem lcF {N : List Str} {sc : Scope} {i : Nat} {x : Str} (V : VisAll N sc) (h : N[i]? = some x) : Loc sc x := by
  have := List.all_eq_true.mp V x (List.mem_of_getElem? h)
  rw [Bool.or_eq_true, decide_eq_true_eq, decide_eq_true_eq] at this
  exact this
theorem svF {S : Se} {X : Cx} {x : Str} {pos : Pos} (V : VisAll X.N X.env.scope) (i : Nat) (hN : X.N[i]? = some x := by rfl) (hd : (x == ("__debug__" : Str)) = false := by decide) (hcd : (x == ("__classdict__" : Str)) = false := by decide) : PE X (.Name x pos) (tE S X (.var i)) :=
  zn9 hN (by rcases lcF V hN with h | h; exact .inl h; exact .inr (.inl h)) hd hcd
theorem sv {S : Se} {X : Cx} (i : Nat) {x : Str} {pos : Pos} (hN : X.N[i]? = some x := by rfl) (hv : Vis X.env.scope x := by first | exact Or.inl rfl | exact Or.inr (Or.inl rfl) | exact Or.inr (Or.inr rfl)) (hd : (x == ("__debug__" : Str)) = false := by decide)
    (hcd : (x == ("__classdict__" : Str)) = false := by decide) : PE X (.Name x pos) (tE S X (.var i)) := zn9 hN hv hd hcd
end WK
namespace L2
open PySem PySem.Spec PyProof.Rows IC
def shC : Sum Ce Int -> Option Int
  | .inl _ => none
  | .inr i => some i
def mergeV : List (Option Int) -> List V -> List V
  | [], _ => []
  | some i :: r, zs => .int i :: mergeV r zs
  | none :: r, z :: zs => z :: mergeV r zs
  | none :: _, [] => []
def pick : List (Option Int) -> List V -> List V
  | none :: r, v :: vs => v :: pick r vs
  | some _ :: r, _ :: vs => pick r vs
  | _, _ => []
def nKw : List (Option Int) -> Nat
  | [] => 0
  | none :: r => nKw r + 1
  | some _ :: r => nKw r
def lenC : Ces -> Nat
  | .nil => 0
  | .cons _ r => lenC r + 1
def gK (np : Nat) (sh : List (Option Int)) (vs zs : List V) : List V := if vs.length = np /\ zs.length = nKw sh then vs ++ mergeV sh zs else []
theorem zlp {call : Nat -> List PV -> Store -> R PV} {ρ : IC.Env} : ∀ (a : Ces) {st st' : Store} {vs : List PV}, evs call ρ st a = .ok vs st' -> vs.length = lenC a
  | .nil, st, st', vs, h => by simp only [evs] at h; cases h; rfl
  | .cons e r, st, st', vs, h => by
    simp only [evs] at h
    cases q : ev call ρ st e with
    | ok v s1 =>
      rw [q] at h
      simp only [R.bind] at h
      cases q2 : evs call ρ s1 r with
      | ok ws s2 =>
        rw [q2] at h
        cases h
        simp [lenC, zlp r q2]
      | exc c s => rw [q2] at h; cases h
      | bad => rw [q2] at h; cases h
    | exc c s => rw [q] at h; cases h
    | bad => rw [q] at h; cases h
theorem zlf {call : Nat -> List PV -> Store -> R PV} {ρ : IC.Env} : ∀ (a b : Ces) (st : Store), evs call ρ st (appC a b) = (evs call ρ st a).bind fun vs st1 => (evs call ρ st1 b).bind fun ws st2 => .ok (vs ++ ws) st2
  | .nil, b, st => by
    simp only [appC, evs, R.bind, List.nil_append]
    cases evs call ρ st b <;> rfl
  | .cons e r, b, st => by
    simp only [appC, evs]
    cases ev call ρ st e with
    | ok v st1 =>
      simp only [R.bind]
      rw [zlf r b st1]
      cases evs call ρ st1 r with
      | ok vs st2 =>
        simp only [R.bind]
        cases evs call ρ st2 b <;> rfl
      | exc c s => rfl
      | bad => rfl
    | exc c s => rfl
    | bad => rfl
section
variable {S : Se} {X : Cx} {k : Nat} {f : Addr} {fd : FuncData} {ps ks : List Str} {sp : Sp} {x : Str} {p pos kpos : Pos} {e : Expr} {es : List Expr} {kws : List Keyword} {nm : Option Str} {t tk : TA} {CX : CXT} {ca : Ce} {ces : Ces} {items : List (Sum Ce Int)} {g : List Value -> List Value -> List Value} {gV : List V -> List V -> List V}
theorem zeQ {K : PySem.W.Frag} {cl : Nat -> Addr} {B : Addr -> Prop} {φ : Ph} {H : Hp} {call : Nat -> List PV -> Store -> R PV} {ρ : IC.Env} : ∀ (items : List (Sum Ce Int)) {st st' : Store} {vs : List PV} {xs : List V}, evs call ρ st (tailC items) = .ok vs st' -> RepL K cl B φ H vs xs -> mergeV (items.map shC) (pick (items.map shC) xs) = xs /\ (pick (items.map shC) xs).length = nKw (items.map shC)
  | [], st, st', vs, xs, h, l => by
    simp only [tailC, evs] at h
    cases h
    simp only [RepL] at l
    subst l
    exact ⟨rfl, rfl⟩
  | .inl c :: r, st, st', vs, xs, h, l => by
    simp only [tailC, evs] at h
    obtain ⟨v, s1, e1, h⟩ := zdc h
    obtain ⟨ws, s2, e2, h⟩ := zdc h
    cases h
    simp only [RepL] at l
    obtain ⟨y, ys, rfl, _, l⟩ := l
    obtain ⟨q1, q2⟩ := zeQ r e2 l
    simp only [List.map_cons, shC, pick, mergeV, nKw, List.length_cons, q1, q2]
    exact ⟨trivial, trivial⟩
  | .inr i :: r, st, st', vs, xs, h, l => by
    simp only [tailC, evs, ev] at h
    obtain ⟨v, s1, e1, h⟩ := zdc h
    obtain ⟨ws, s2, e2, h⟩ := zdc h
    cases h
    cases e1
    simp only [RepL, RepV] at l
    obtain ⟨y, ys, rfl, rfl, l⟩ := l
    obtain ⟨q1, q2⟩ := zeQ r e2 l
    simp only [List.map_cons, shC, pick, mergeV, nKw, q1, q2]
    exact ⟨trivial, trivial⟩
def tK (S : Se) (X : Cx) (items : List (Sum Ce Int)) : TA := fun σ H Q => ∃ B φ st ρ, RepS X.K S.cl B φ H st /\ RepE X.K S.cl B φ H ρ σ /\ Run S X σ B φ H (RL S X B) (evs S.call ρ st (tailC items)) fun xs H' => Q (pick (items.map shC) xs) H'
theorem PK.imp {t t' : TA} (h : PK X kws t') (k : ∀ σ H Q, t σ H Q -> t' σ H Q) : PK X kws t := fun pos pins s σ H Q I q => h pos pins s σ H Q I (k σ H Q q)
theorem z8 : PK X [] (tK S X []) := pk_nil.imp fun σ H Q ⟨B, φ, st, ρ, rs, re, h⟩ => by
  simp only [tailC, evs] at h
  exact h.ok rs (x := []) (by simp only [RepL])
theorem zt {i : Int} (h : PK X kws (tK S X items)) : PK X kws (tK S X (.inr i :: items)) := h.imp fun σ H Q ⟨B, φ, st, ρ, rs, re, h⟩ => by
  simp only [tailC, evs, ev, R.bind] at h
  refine ⟨B, φ, st, ρ, rs, re, ?_⟩
  cases e : evs S.call ρ st (tailC items) with
  | ok vs st' =>
    rw [e] at h
    intro xs H' φ' s rs' l
    exact h (.int i :: xs) H' φ' s rs' (by simp only [RepL, RepV]; exact ⟨_, _, rfl, rfl, l⟩)
  | exc c s => rw [e] at h; exact h
  | bad => rw [e] at h; exact h
theorem zbD (ha : PE X e (tE S X ca)) (h : PK X kws (tK S X items)) : PK X (⟨nm, e, kpos⟩ :: kws) (tK S X (.inl ca :: items)) := (zoG ha h).imp fun σ H Q ⟨B, φ, st, ρ, rs, re, h⟩ => by
  simp only [tailC, evs] at h
  refine tE.bind rs re h fun x H1 v st1 φ1 s1 rs1 re1 rv h1 => ⟨B, φ1, st1, ρ, rs1, re1, ?_⟩
  refine (Run.bind (Rel := RL S X B) h1).mono fun xs H2 ⟨ws, st2, φ2, s2, rs2, l, h2⟩ => ?_
  exact h2.ok rs2 (x := x :: xs) (by simp only [RepL]; exact ⟨x, xs, rfl, rv.step s2, l⟩)
theorem zG {fi : Nat} (F : FnOk X.prog X.w X.K X.mg X.base (CX1 X.prog X.w) k f fd ps (spI X.K S.cl S.call fi)) (hr : Room k X.A) (hg : Gl X x) (hm : X.mg x = some (.ref f)) (hk : PySem.W.keepIn X.K (.ref f) = true) {np : Nat} (hb : ∃ g, KBinds X.K fd ps ks g (gK np (items.map shC))) (hnp : lenC ces = np)
    (ha : PA X (e :: es) (tAs S X ces)) (hkw : PK X kws (tK S X items)) (hall : (backToKw pos (keywordEach kws X.env)).all (·.1.isSome) = true := by rfl) (hks : (backToKw pos (keywordEach kws X.env)).filterMap (·.1) = ks := by rfl)
    (hdb : (x == ("__debug__" : Str)) = false := by decide) (he : starEach (e :: es) X.env = (false, eval e X.env) :: starEach es X.env := by rfl)
    (hpl : ((backTo pos (starEach (e :: es) X.env)).any (·.1) || (backToKw pos (keywordEach kws X.env)).any (·.1.isNone)) = false := by rfl) :
    PE X (.Call (.Name x p) (e :: es) kws pos) (tE S X (.call fi (appC ces (tailC items)))) := by
  intro pins s σ H Q I ⟨B, φ, st, ρ, rs, re, h⟩
  simp only [ev] at h
  rw [zlf, R.bind_assoc] at h
  refine wpAny_Call_Name_kw (zhj I hg hm ?_ hdb)
  have h0 : tAs S X ces σ H fun vs H1 => tK S X items σ H1 fun zs H2 => ∃ E : XK, spI X.K S.cl S.call fi (gK np (items.map shC) vs zs) H2 Q E /\ ∀ pins s e s', Inv X pins σ H2 s -> CX1 X.prog X.w X.stack H2 s E e s' -> X.xe e s' := by
    have hlen : ∀ vs st', evs S.call ρ st ces = .ok vs st' -> vs.length = np := fun vs st' q => (zlp ces q).trans hnp
    refine ⟨B, φ, st, ρ, rs, re, ?_⟩
    cases q : evs S.call ρ st ces with
    | exc c s => rw [q] at h; exact h
    | bad => rw [q] at h; exact h
    | ok vs st1 =>
    rw [q] at h
    intro xs H1 φ1 s1 rs1 rv
    have h1 := Run.on s1 h
    have re1 := re.step s1
    have hv := hlen vs st1 q
    refine ⟨B, φ1, st1, ρ, rs1, re1, ?_⟩
    have h1 : Run S X σ B φ1 H1 (RV S X B) (((evs S.call ρ st1 (tailC items)).bind fun a st => (R.ok (vs ++ a) st : R (List PV))).bind fun vs st1 => S.call fi vs st1) Q := h1
    rw [R.bind_assoc] at h1
    cases e : evs S.call ρ st1 (tailC items) with
    | ok ws st2 =>
      rw [e] at h1
      intro ys H2 φ2 s2 rs2 l2
      obtain ⟨m1, m2⟩ := zeQ items e l2
      have eg : gK np (items.map shC) xs (pick (items.map shC) ys) = xs ++ ys := by
        unfold gK
        rw [if_pos ⟨by rw [<- rv.length]; exact hv, m2⟩, m1]
      show ∃ E : XK, spI X.K S.cl S.call fi (gK np (items.map shC) xs (pick (items.map shC) ys)) H2 Q E /\ _
      rw [eg]
      exact zfY rs2 ((rv.step s2).append l2) (Run.on s2 h1)
    | exc c s => rw [e] at h1; exact h1
    | bad => rw [e] at h1; exact h1
  refine PySem.W.callWith_KW (h₀ := X.base) I.ok.mod.kin hk hall (thn (ha pos pins s σ H _ I h0) fun us s1 ⟨vs, H1, I1, r, q⟩ => ?_) hpl he
  refine thn (hkw pos pins s1 σ H1 _ I1 q) fun ws s2 ⟨zs, H2, I2, rz, E, q2, hx⟩ => ⟨I2.kIn, ?_⟩
  rw [hks]
  obtain ⟨g, hb⟩ := hb
  have r2 := hb.rel r rz
  have hl : (g us ws).length = ps.length := by rw [<- r2.length]; exact F.len _ _ _ _ q2
  refine wpAny_call (codeAny_mono (F.run X.A X.stack s2 H2 ⟨us, ks.zip ws⟩ (g us ws) (gK np (items.map shC) vs zs) Q E hr I2.env0 (hb.to s2 us ws I2.kIn hl) r2 q2) fun r s' hq => ?_)
  cases r with
  | error e => exact hx pins s2 e s' I2 hq
  | ok fl =>
    cases fl with
    | ret u => exact I2.after hq
    | next => exact False.elim hq
    | brk => exact False.elim hq
    | cont => exact False.elim hq
end
def mergeU : List (Option Int) -> List Value -> List Value -> List Value
  | [], _, _ => []
  | some _ :: r, ws, d :: ds => d :: mergeU r ws ds
  | none :: r, w :: ws, _ :: ds => w :: mergeU r ws ds
  | _, _, _ => []
theorem zfV : ∀ (sh : List (Option Int)) (ds : List Int) {zs : List V} {ws us : List Value}, Vals (ds.map V.int) us -> Vals zs ws -> sh.length = ds.length -> (∀ p ∈ sh.zip ds, ∀ i, p.1 = some i -> i = p.2) -> Vals (mergeV sh zs) (mergeU sh ws us)
  | [], ds, zs, ws, us, r, q, hl, h => .nil
  | some i :: r, [], zs, ws, us, rr, q, hl, h => by simp at hl
  | some i :: r, d :: ds, zs, ws, _, .cons a b, q, hl, h => by
    have : i = d := h (some i, d) (by simp) i rfl
    subst this
    exact .cons a (zfV r ds b q (by simpa using hl) fun p hp => h p (by simp [hp]))
  | none :: r, [], zs, ws, us, rr, q, hl, h => by simp at hl
  | none :: r, d :: ds, _, _, _, .cons a b, .nil, hl, h => .nil
  | none :: r, d :: ds, _, _, _, .cons a b, .cons c q, hl, h => .cons c (zfV r ds b q (by simpa using hl) fun p hp => h p (by simp [hp]))
structure FnD (K : PySem.W.Frag) (mg : Str -> Option Value) (x : Str) (st : Stmt) (ps : List Str) (ds : List Int) (f : Addr) (fd : FuncData) : Prop where
  ex : ∃ (oc : Value) (od : Option Addr) (dT : Addr) (kV doc pm : Value) (an : Option Addr) (cdv ct : Value) (osl : Array (Option Value)) (o : Obj) (its : Array Value) (n : Nat),
    fd = PySem.W.fnOf x x (defArgs st) (defBody st) (defScope st) (.ref dT) kV doc pm an cdv ct /\ K.lookup f = some ⟨oc, od, .func fd, osl⟩ /\ PySem.W.codeIn K cdv x = true /\ K.lookup dT = some o /\ o.data = .seq its n /\ Vals (ds.map V.int) its.toList
  kp : PySem.W.keepIn K (.ref f) = true
  m : mg x = some (.ref f)
theorem kbD {K : PySem.W.Frag} {mg : Str -> Option Value} {x : Str} {st : Stmt} {ps ks : List Str} {ds : List Int} {f : Addr} {fd : FuncData} {np off : Nat} {sh : List (Option Int)} (D : FnD K mg x st ps ds f fd) (hnk : ks.length = nKw sh) (hsh : sh.length = (ds.drop off).length) (hd' : ((sh.zip (ds.drop off)).all fun p => p.1.all fun i => decide (i = p.2)) = true)
    (h : ∀ (dT : Addr) (kV doc pm : Value) (an : Option Addr) (cdv ct : Value) (us ws its : List Value), us.length = np -> ws.length = ks.length -> its.length = ds.length ->
      ∃ k, bindArgs (PySem.W.fnOf x x (defArgs st) (defBody st) (defScope st) (.ref dT) kV doc pm an cdv ct) ⟨us, ks.zip ws⟩ = seqItems? (.ref dT) >>= k /\ k (some its.toArray) = pure (ps.zip (us ++ mergeU sh ws (its.drop off)))) (hps : 0 < ps.length) :
    ∃ g, KBinds K fd ps ks g (gK np sh) := by
  have hd : ∀ p ∈ sh.zip (ds.drop off), ∀ i, p.1 = some i -> i = p.2 := fun p hp i hi => by
    have := List.all_eq_true.mp hd' p hp
    rw [hi] at this
    simpa using this
  obtain ⟨oc, od, dT, kV, doc, pm, an, cdv, ct, osl, o, its, n, rfl, lk, hcd, lo, hs, r⟩ := D.ex
  refine ⟨fun us ws => if us.length = np /\ ws.length = nKw sh then us ++ mergeU sh ws (its.toList.drop off) else [], ⟨fun s us ws KX hl => ?_, fun {vs us zs ws} rv rz => ?_⟩⟩
  · by_cases c : us.length = np /\ ws.length = nKw sh
    · rw [if_pos c] at hl ⊢
      obtain ⟨k, h1, h2⟩ := h dT kV doc pm an cdv ct us ws its.toList c.1 (by rw [hnk]; exact c.2) (by rw [<- r.length, List.length_map])
      exact BindsTo.of_defaults rfl (KX _ _ lo) hs h1 (by simpa using h2)
    · rw [if_neg c] at hl
      simp at hl
      omega
  · unfold gK
    have e1 := rv.length
    have e2 := rz.length
    by_cases c : us.length = np /\ ws.length = nKw sh
    · rw [if_pos c, if_pos (by omega)]
      refine rv.append (zfV sh (ds.drop off) ?_ rz hsh hd)
      rw [List.map_drop]
      exact r.drop off
    · rw [if_neg c, if_neg (by omega)]
      exact .nil
section
variable {P : Program} {w : World} {K : PySem.W.Frag} {mg : Str -> Option Value} {base : Heap} {cl : Nat -> Addr} {T : Nat -> Option IC.Fn} {fi : Nat} {fn : IC.Fn} {x : Str} {stm : Stmt} {f : Addr} {fd : FuncData} {N ps : List Str} {ds : List Int} {k : Nat}
theorem Fun.okXD {sp : Sp} (F : FnD K mg x stm ps ds f fd) (S : FnScope N ps (defScope stm)) (len : ∀ vs H Q E, sp vs H Q E -> vs.length = ps.length)
    (body : ∀ (cdv : Value) (A : Around) (outer : List PySem.Env) (s : Shared) (H : Hp) (vs : List V) (Q : VK) (E : XK), Room k (A.deeper (envOfC x (defScope stm) s.heap.objs.size f cdv)) -> sp vs H Q E ->
      ∃ t, PSs (cxOf (CX1 P w) P w K mg base N x (defScope stm) f cdv A outer s H E) (defBody stm) t /\ t { nx := fun _ H' => Q .non H', rt := Q } (start N vs) H) : FnOk P w K mg base (CX1 P w) (k + 1) f fd ps sp := by
  obtain ⟨oc, od, dT, kV, doc, pm, an, cdv, ct, osl, o, its, n, rfl, lk, hcd, _⟩ := F.ex
  exact zp2 lk hcd S len fun A outer s H vs Q E hr hsp => body cdv A outer s H vs Q E hr hsp
theorem zl3 (hT : T fi = some fn) (F : FnD K mg x stm ps ds f fd) (Sc : FnScope N ps (defScope stm)) (hnp : ps.length = fn.np) (hns : N.length = fn.ns)
    (body : ∀ (cdv : Value) (A : Around) (outer : List PySem.Env) (s : Shared) (H : Hp) (E : XK), Room k (A.deeper (envOfC x (defScope stm) s.heap.objs.size f cdv)) ->
      PSs (cxOf (CX1 P w) P w K mg base N x (defScope stm) f cdv A outer s H E) (defBody stm) (tSs ⟨cl, callT T k, true⟩ (cxOf (CX1 P w) P w K mg base N x (defScope stm) f cdv A outer s H E) fn.body)) :
    FnOk P w K mg base (CX1 P w) (k + 1) f fd ps (spI K cl (callT T (k + 1)) fi) :=
  Fun.okXD F Sc (fun vs H Q E h => znV hT hnp h) fun cdv A outer s H vs Q E hr h => ⟨_, body cdv A outer s H E hr, zld hT hns h⟩
end
end L2
namespace L2
open PySem PySem.Spec PyProof.Rows IC
theorem zg8 (a b : Key) : peq (keyP a) (keyP b) = decide (a = b) := by
  rw [Bool.eq_iff_iff]
  cases a <;> cases b <;> simp [keyP, peq]
theorem zjK : ∀ (a b : List Key), peqs (a.map keyP) (b.map keyP) = decide (a = b)
  | [], [] => by simp [peqs]
  | [], y :: ys => by simp [peqs]
  | x :: xs, [] => by simp [peqs]
  | x :: xs, y :: ys => by
    simp only [List.map_cons, peqs, zg8, zjK xs ys]
    rw [Bool.eq_iff_iff]
    simp
theorem zhf (a b : List Key) : peq (.tup (a.map keyP)) (.tup (b.map keyP)) = decide (a = b) := by
  simp only [peq, zjK]
theorem zkY {k : PV} (h : isKey0 k = true) : ∃ q, k = keyP q := by
  cases k with
  | int i => exact ⟨.inl i, rfl⟩
  | str i => exact ⟨.inr i, rfl⟩
  | _ => cases h
theorem zmv : ∀ {ks : List PV}, ks.all isKey0 = true -> ∃ qs : List Key, ks = qs.map keyP
  | [], _ => ⟨[], rfl⟩
  | k :: ks, h => by
    rw [List.all_cons, Bool.and_eq_true] at h
    obtain ⟨q, rfl⟩ := zkY h.1
    obtain ⟨qs, rfl⟩ := zmv h.2
    exact ⟨q :: qs, rfl⟩
section
variable {S : Se} {X : Cx} {K : PySem.W.Frag} {cl : Nat -> Addr} {σ : St} {B : Addr -> Prop} {φ : Ph} {H : Hp} {st : Store} {p pos p2 px apos : Pos} {a b c d o : Expr} {ca cb cc : Ce}
theorem repV_key {q : Key} {x : V} : RepV K cl B φ H (keyP q) x ↔ x = kV q := by
  cases q <;> simp [keyP, RepV, kV]
theorem zib : ∀ {qs : List Key} {xs : List V}, RepL K cl B φ H (qs.map keyP) xs -> xs = qs.map kV
  | [], xs, l => by simpa only [List.map_nil, RepL] using l
  | q :: qs, xs, l => by
    simp only [List.map_cons, RepL] at l
    obtain ⟨y, ys, rfl, r, l⟩ := l
    rw [repV_key.mp r, zib l]
    rfl
theorem DK.look {q : Key} : ∀ {kvs : List (PV × PV)} {ks : List (Key × V)}, DK K cl B φ H kvs ks -> ∀ {v : PV} {x : V}, RepV K cl B φ H v x -> RepV K cl B φ H ((IC.look (keyP q) kvs).getD v) ((valV ks q).getD x)
  | [], ks, h, v, x, r => by cases h; exact r
  | (k, w) :: t, ks, h, v, x, r => by
    obtain ⟨q', y, s, rfl, rfl, rv, l⟩ := h
    simp only [IC.look, zg8]
    by_cases e : q' = q
    · rw [zeC (p := (q', y)) e]
      simp [e, rv]
    · rw [zev (p := (q', y)) e]
      simp only [decide_eq_true_eq, e, if_false]
      exact DK.look l r
theorem DT.look {q : List Key} : ∀ {kvs : List (PV × PV)} {ks : List (List Key × V)}, DT K cl B φ H kvs ks -> ∀ {v : PV} {x : V}, RepV K cl B φ H v x -> RepV K cl B φ H ((IC.look (.tup (q.map keyP)) kvs).getD v) ((valV ks q).getD x)
  | [], ks, h, v, x, r => by cases h; exact r
  | (k, w) :: t, ks, h, v, x, r => by
    obtain ⟨q', y, s, rfl, rfl, rv, l⟩ := h
    simp only [IC.look, zhf]
    by_cases e : q' = q
    · rw [zeC (p := (q', y)) e]
      simp [e, rv]
    · rw [zev (p := (q', y)) e]
      simp only [decide_eq_true_eq, e, if_false]
      exact DT.look l r
theorem DK.any {q : Key} : ∀ {kvs : List (PV × PV)} {ks : List (Key × V)}, DK K cl B φ H kvs ks -> (kvs.any fun p => peq p.1 (keyP q)) = ks.any fun kv => decide (kv.1 = q)
  | [], ks, h => by cases h; rfl
  | (k, w) :: t, ks, h => by
    obtain ⟨q', y, s, rfl, rfl, rv, l⟩ := h
    simp only [List.any_cons, zg8, DK.any l]
theorem DT.any {q : List Key} : ∀ {kvs : List (PV × PV)} {ks : List (List Key × V)}, DT K cl B φ H kvs ks -> (kvs.any fun p => peq p.1 (.tup (q.map keyP))) = ks.any fun kv => decide (kv.1 = q)
  | [], ks, h => by cases h; rfl
  | (k, w) :: t, ks, h => by
    obtain ⟨q', y, s, rfl, rfl, rv, l⟩ := h
    simp only [List.any_cons, zhf, DT.any l]
theorem DK.map {q : Key} {v : PV} {x : V} (r : RepV K cl B φ H v x) : ∀ {kvs : List (PV × PV)} {ks : List (Key × V)}, DK K cl B φ H kvs ks -> DK K cl B φ H (kvs.map fun p => if peq p.1 (keyP q) = true then (p.1, v) else p) (ks.map fun kv => if kv.1 = q then (kv.1, x) else kv)
  | [], ks, h => by cases h; exact rfl
  | (k, w) :: t, ks, h => by
    obtain ⟨q', y, s, rfl, rfl, rv, l⟩ := h
    simp only [List.map_cons, zg8, decide_eq_true_eq]
    by_cases e : q' = q
    · simp only [e, if_true]
      exact ⟨q, x, _, rfl, rfl, r, DK.map r l⟩
    · simp only [e, if_false]
      exact ⟨q', y, _, rfl, rfl, rv, DK.map r l⟩
theorem DT.map {q : List Key} {v : PV} {x : V} (r : RepV K cl B φ H v x) : ∀ {kvs : List (PV × PV)} {ks : List (List Key × V)}, DT K cl B φ H kvs ks -> DT K cl B φ H (kvs.map fun p => if peq p.1 (.tup (q.map keyP)) = true then (p.1, v) else p) (ks.map fun kv => if kv.1 = q then (kv.1, x) else kv)
  | [], ks, h => by cases h; exact rfl
  | (k, w) :: t, ks, h => by
    obtain ⟨q', y, s, rfl, rfl, rv, l⟩ := h
    simp only [List.map_cons, zhf, decide_eq_true_eq]
    by_cases e : q' = q
    · simp only [e, if_true]
      exact ⟨q, x, _, rfl, rfl, r, DT.map r l⟩
    · simp only [e, if_false]
      exact ⟨q', y, _, rfl, rfl, rv, DT.map r l⟩
theorem DK.snoc {q : Key} {v : PV} {x : V} (r : RepV K cl B φ H v x) : ∀ {kvs : List (PV × PV)} {ks : List (Key × V)}, DK K cl B φ H kvs ks -> DK K cl B φ H (kvs ++ [(keyP q, v)]) (ks ++ [(q, x)])
  | [], ks, h => by cases h; exact ⟨q, x, [], rfl, rfl, r, rfl⟩
  | (k, w) :: t, ks, h => by
    obtain ⟨q', y, s, rfl, rfl, rv, l⟩ := h
    exact ⟨q', y, _, rfl, rfl, rv, DK.snoc r l⟩
theorem DT.snoc {q : List Key} {v : PV} {x : V} (r : RepV K cl B φ H v x) : ∀ {kvs : List (PV × PV)} {ks : List (List Key × V)}, DT K cl B φ H kvs ks -> DT K cl B φ H (kvs ++ [(.tup (q.map keyP), v)]) (ks ++ [(q, x)])
  | [], ks, h => by cases h; exact ⟨q, x, [], rfl, rfl, r, rfl⟩
  | (k, w) :: t, ks, h => by
    obtain ⟨q', y, s, rfl, rfl, rv, l⟩ := h
    exact ⟨q', y, _, rfl, rfl, rv, DT.snoc r l⟩
theorem DK.put {q : Key} {v : PV} {x : V} {kvs : List (PV × PV)} {ks : List (Key × V)} (l : DK K cl B φ H kvs ks) (r : RepV K cl B φ H v x) : DK K cl B φ H (IC.put (keyP q) v kvs) (putK ks q x) := by
  unfold IC.put putK
  rw [DK.any l]
  split
  · exact DK.map r l
  · exact DK.snoc r l
theorem DT.put {q : List Key} {v : PV} {x : V} {kvs : List (PV × PV)} {ks : List (List Key × V)} (l : DT K cl B φ H kvs ks) (r : RepV K cl B φ H v x) : DT K cl B φ H (IC.put (.tup (q.map keyP)) v kvs) (putK ks q x) := by
  unfold IC.put putK
  rw [DT.any l]
  split
  · exact DT.map r l
  · exact DT.snoc r l
theorem DK.len : ∀ {kvs : List (PV × PV)} {ks : List (Key × V)}, DK K cl B φ H kvs ks -> kvs.length = ks.length
  | [], ks, h => by cases h; rfl
  | (k, w) :: t, ks, h => by
    obtain ⟨q', y, s, rfl, rfl, rv, l⟩ := h
    simp [DK.len l]
theorem DT.len : ∀ {kvs : List (PV × PV)} {ks : List (List Key × V)}, DT K cl B φ H kvs ks -> kvs.length = ks.length
  | [], ks, h => by cases h; rfl
  | (k, w) :: t, ks, h => by
    obtain ⟨q', y, s, rfl, rfl, rv, l⟩ := h
    simp [DT.len l]
theorem RepS.dct {n : Nat} {t : Bool} {kvs : List (PV × PV)} {x : V} (rs : RepS K cl B φ H st) (r : RepV K cl B φ H (.loc n) x) (h : st[n]? = some (.dct t kvs)) : ∃ y, x = .ref y /\ φ[n]? = some (some y) /\ RepO K cl B φ H (.dct t kvs) y := by
  simp only [RepV] at r
  obtain ⟨hn, y, rfl, ha⟩ := r
  obtain ⟨z, hz⟩ := rs.liv n _ h (by intro z; cases z)
  obtain rfl := ha z hz
  obtain ⟨o, ho, ro⟩ := rs.obj n z hz
  rw [h] at ho; cases ho
  exact ⟨z, rfl, hz, ro⟩
theorem ziA {v : PV} {t : Bool} {kvs : List (PV × PV)} (h : dctOf st v = some (t, kvs)) : ∃ n, v = .loc n /\ st[n]? = some (.dct t kvs) := by
  cases v with
  | loc n =>
    simp only [dctOf] at h
    split at h
    · rename_i t' xs q
      cases h
      exact ⟨n, rfl, q⟩
    · cases h
  | _ => cases h
theorem zlH {k : PV} (h : isKey false k = true) : ∃ q, k = keyP q := zkY h
theorem zkX {k : PV} (h : isKey true k = true) : ∃ q : List Key, k = .tup (q.map keyP) := by
  cases k with
  | tp b xs =>
    cases b with
    | false =>
      obtain ⟨qs, rfl⟩ := zmv h
      exact ⟨qs, rfl⟩
    | true => cases h
  | _ => cases h
theorem zlJ {q : List Key} {x : V} (r : RepV K cl B φ H (.tup (q.map keyP)) x) : ∃ y, x = .ref y /\ H y = some (.tup (q.map kV)) := by
  simp only [RepV] at r
  obtain ⟨y, xs, rfl, rt, l⟩ := r
  rcases rt with ⟨rt, _⟩ | ⟨z, _⟩
  · exact ⟨y, rfl, by rw [rt, zib l]⟩
  · cases z
theorem zla : PE X (.Dict [] [] pos) (tE S X (.dict0 true)) := pe_dnewT.imp fun σ H Q ⟨B, φ, st, ρ, rs, re, h⟩ => by
  simp only [ev] at h
  exact fun p hp => h _ _ (φ ++ [some p]) (.push hp) (rs.push hp (rs.nB hp) ⟨[], zar, rfl⟩) (.loc_new rs)
theorem zee (hu : X.A.units + 1 < cLine) (ha : PE X a (tE S X ca)) (hb : PE X b (tE S X cb)) (hc : PE X c (tE S X cc)) (m : M2 X a "get" apos b c pos := by exact ⟨rfl, rfl, rfl, rfl⟩) : PE X (.Call (.Attribute a "get" apos) [b, c] [] pos) (tE S X (.mth .get ca (.cons cb (.cons cc .nil)))) :=
  (zm3 hu ha hb hc m).imp fun σ H Q ⟨B, φ, st, ρ, rs, re, h⟩ => by
    simp only [ev] at h
    refine tE.bind rs re h fun x H1 v st1 φ1 s1 rs1 re1 rv h1 => ?_
    obtain ⟨_, e1, h1⟩ := zlx h1
    simp only [mthOk] at e1
    cases q : dctOf st1 v with
    | none => rw [q] at e1; cases e1
    | some tk =>
      obtain ⟨t, kvs⟩ := tk
      obtain ⟨n, rfl, hn⟩ := ziA q
      obtain ⟨y, rfl, hy, ro⟩ := rs1.dct rv hn
      refine ⟨y, rfl, ?_, ?_⟩
      · cases t with
        | false => obtain ⟨ks, hk, _⟩ := ro; exact .inl ⟨ks, .inl hk⟩
        | true => obtain ⟨ks, hk, _⟩ := ro; exact .inr ⟨ks, .inl hk⟩
      · simp only [evs, R.bind_assoc] at h1
        refine tE.bind rs1 re1 h1 fun kx H2 kv st2 φ2 s2 rs2 re2 rk h2 => tE.bind rs2 re2 h2 fun dx H3 dv st3 φ3 s3 rs3 re3 rd h3 => ?_
        simp only [R.bind, mthV, getV] at h3
        cases q3 : dctOf st3 (.loc n) with
        | none => rw [q3] at h3; exact h3.elim
        | some tk3 =>
          obtain ⟨t3, kvs3⟩ := tk3
          rw [q3] at h3
          dsimp only at h3
          split at h3
          · rename_i hk
            obtain ⟨n', e', hn3⟩ := ziA q3
            cases e'
            obtain ⟨y3, ey, hy3, ro3⟩ := rs3.dct ((rv.step s2).step s3) hn3
            cases ey
            have rk3 := rk.step s3
            cases t3 with
            | false =>
              obtain ⟨q, rfl⟩ := zlH hk
              obtain ⟨ks, hks, l⟩ := ro3
              refine ⟨valV ks q, .inl ⟨ks, q, .inl hks, repV_key.mp rk3, rfl⟩, h3.ok rs3 (DK.look l rd)⟩
            | true =>
              obtain ⟨q, rfl⟩ := zkX hk
              obtain ⟨ks, hks, l⟩ := ro3
              obtain ⟨b', rfl, hb'⟩ := zlJ rk3
              exact ⟨valV ks q, .inr ⟨ks, q, b', .inl hks, rfl, hb', rfl⟩, h3.ok rs3 (DT.look l rd)⟩
          · exact h3.elim
theorem zkU {st4 : Store} {x y v : PV} (h : dputV st x y v = some st4) : ∃ n t kvs, x = .loc n /\ st[n]? = some (.dct t kvs) /\ isKey t y = true /\ kvs.length < 1000000 /\ st4 = st.set n (.dct t (IC.put y v kvs)) := by
  cases x with
  | loc n =>
    simp only [dputV] at h
    split at h
    · rename_i t kvs q
      split at h
      · rename_i c
        exact ⟨n, t, kvs, rfl, q, c.1, c.2, (Option.some.inj h).symm⟩
      · cases h
    · cases h
  | _ => cases h
theorem zbi (hu : X.A.units + 1 < cLine) (ho : PE X b (tE S X cb)) (hi : PE X c (tE S X cc)) (hv : PE X a (tE S X ca)) (hs : swapsWith a (some (.Subscript b c px)) pos.line X.env = pure false := by rfl) : PS X (.Assign [.Subscript b c px] a pos) (tS S X (.dput cb cc ca)) :=
  (zoE hu ho hi hv hs).imp fun D σ H ⟨B, φ, st, ρ, rs, re, h⟩ => by
    simp only [ex] at h
    refine tE.fl rs re h fun v' H1 v st1 φ1 s1 rs1 re1 rv h1 => tE.fl rs1 re1 h1 fun x' H2 x st2 φ2 s2 rs2 re2 rx h2 => tE.fl rs2 re2 h2 fun y' H3 y st3 φ3 s3 rs3 re3 ry h3 => ?_
    cases e : dputV st3 x y v with
    | none => rw [e] at h3; exact h3.elim
    | some st4 =>
      rw [e] at h3
      obtain ⟨n, t, kvs, rfl, hn, hk, hl, rfl⟩ := zkU e
      obtain ⟨l, rfl, hp, ro⟩ := rs3.dct (rx.step s3) hn
      have rv3 := (rv.step s2).step s3
      have hm := million
      cases t with
      | false =>
        obtain ⟨q, rfl⟩ := zlH hk
        obtain ⟨ks, hks, ld⟩ := ro
        have s4 : Step φ3 H3 φ3 (L2.upd H3 l (.dK (putK ks q v'))) := .put (List.mem_of_getElem? hp)
        refine ⟨l, _, rfl, .inl ⟨ks, q, hks, repV_key.mp ry, by have := ld.len; omega, rfl⟩, h3 σ _ φ3 s4 (rs3.put hp ⟨_, zar, (ld.put rv3).step s4⟩) (re3.step s4)⟩
      | true =>
        obtain ⟨q, rfl⟩ := zkX hk
        obtain ⟨ks, hks, ld⟩ := ro
        obtain ⟨b', rfl, hb'⟩ := zlJ ry
        have s4 : Step φ3 H3 φ3 (L2.upd H3 l (.dT (putK ks q v'))) := .put (List.mem_of_getElem? hp)
        refine ⟨l, _, rfl, .inr ⟨ks, q, b', hks, rfl, hb', by have := ld.len; omega, rfl⟩, h3 σ _ φ3 s4 (rs3.put hp ⟨_, zar, (ld.put rv3).step s4⟩) (re3.step s4)⟩
def trC (kvs : List (Str × Int)) : List (TE × TE) := kvs.map fun kv => (tC (.str kv.1), tC (.int kv.2))
theorem zpD : PPs X pos [] [] (trC []) := zoB
theorem zo0 {ks : List (Option Expr)} {vs : List Expr} {kvs : List (Str × Int)} {x : Str} {i : Int} {j1 j2 : Nat} {p1 p2 : Pos} (h : PPs X pos ks vs (trC kvs)) : PPs X pos (some (.Constant (.str x) j1 p1) :: ks) (.Constant (.int i) j2 p2 :: vs) (trC ((x, i) :: kvs)) := zmG pe_str pe_int h
theorem zgP : ∀ (kvs : List (Str × Int)) {σ : St} {H : Hp} {Q : List (V × V) -> Hp -> Prop}, Q (kvs.map fun kv => (.str kv.1, .int kv.2)) H -> tPairs (trC kvs) σ H Q
  | [], σ, H, Q, h => h
  | kv :: r, σ, H, Q, h => zgP r (Q := fun ps H3 => Q ((.str kv.1, .int kv.2) :: ps) H3) h
theorem DK.fold : ∀ (kvs : List (Str × Int)) {acc : List (PV × PV)} {ks : List (Key × V)}, DK K cl B φ H acc ks -> DK K cl B φ H (kvs.foldl (fun acc kv => IC.put (.str kv.1) (.int kv.2) acc) acc) (mergeK ks (kvs.map fun kv => (Sum.inr kv.1, .int kv.2)))
  | [], acc, ks, l => l
  | kv :: r, acc, ks, l => by
    unfold mergeK
    simp only [List.foldl_cons, List.map_cons]
    exact DK.fold r (l.put (q := Sum.inr kv.1) (x := .int kv.2) (by simp only [RepV]))
theorem zoD {ks : List (Option Expr)} {vs : List Expr} {kvs : List (Str × Int)} (h : PPs X pos ks vs (trC kvs)) (hall : ks.all (·.isSome) = true := by rfl) (hl : ks.length = vs.length := by rfl) (h0 : ks ≠ [] := by simp) (h15 : ks.length <= 15 := by decide) : PE X (.Dict ks vs pos) (tE S X (.newd kvs)) :=
  (zoC h hall hl h0 h15).imp fun σ H Q ⟨B, φ, st, ρ, rs, re, h⟩ => by
    simp only [ev] at h
    split at h
    · rename_i c
      intro p hp
      refine zgP kvs ⟨zar, kvs.map fun kv => (Sum.inr kv.1, .int kv.2), by simp [kV], by simpa using c, ?_⟩
      rw [zoi]
      exact h _ _ (φ ++ [some p]) (.push hp) (rs.push hp (rs.nB hp) ⟨_, zar, DK.fold kvs rfl⟩) (.loc_new rs)
    · exact h.elim
end
end L2
namespace L2
open PySem PySem.Spec PyProof.Rows IC
def Itd (lo : Int) (n : Nat) : It := ⟨fun i _ => i < n, fun i H x H' => H' = H /\ x = .int (lo + i * (-1)), fun i _ => n <= i⟩
theorem ziY {P : Program} {w : World} {K : PySem.W.Frag} {tg : Expr} (it : Addr) (lo : Int) (n : Nat) : Turn P w K tg (Itd lo n) [it] it (fun i h => IsRangeIter h it (lo + (i : Nat) * (-1)) ((n : Int) - (i : Nat)) (-1)) where
  mem := by simp
  obj := fun i h st b hb => by
    have e : b = it := by simpa using hb
    subst e
    exact ⟨_, st, fun v z => by
      have z' : Data.fields _ = Data.cell v := z
      cases z'⟩
  keep := fun i h h' st k => k it (by simp) _ st
  item := by
    intro X hP hw hK hc i pins s σ H E I hf st hg
    subst hP hw hK
    obtain ⟨f0, f1, f2, f3, f4, f5⟩ := hf it (by simp)
    have W := Walks.range (prog := X.prog) (w := X.w) (I.ok.hd hc) it lo (-1) n
    refine W.item i s _ _ hg st fun v h' tk hv st' kk => ?_
    obtain ⟨t, rfl⟩ := hv
    have I1 : Inv X pins σ H { s with heap := h', toks := tk } := I.turned (fun b o hb e => kk b o (by simpa using hb) e) f0 f1 f3 f4 f5
    exact ⟨_, rfl, znu (s := { s with heap := h', toks := tk }) (n := "range_iterator") st' rfl rfl (by decide) ⟨.int (lo + i * (-1)), H, I1, ⟨t, rfl⟩, ⟨rfl, rfl⟩, st', fun b hb => (hf b hb).1⟩⟩
  done := by
    intro X hP hw hK hc i pins s σ H E I hf st hg
    subst hP hw hK
    obtain ⟨f0, f1, f2, f3, f4, f5⟩ := hf it (by simp)
    exact wpAny_pyNext_range_end (I.ok.hd hc) st (by have : n <= i := hg; omega) fun h' eb => ⟨rfl, I.turned (t' := s.toks) (fun b o hb e => eb b o hb e) f0 f1 f3 f4 f5⟩
  self := fun _ _ _ _ _ st h => wpAny_pyIter_rangeiter st h
section
variable {S : Se} {X : Cx} {σ : St} {B : Addr -> Prop} {φ : Ph} {H : Hp} {p pos p3 p4 : Pos} {a b tg : Expr} {ca cb : Ce}
theorem zly {pins : List (Addr × Obj)} {σ : St} {H : Hp} {s : Shared} {R : It -> Hp -> Prop} {E : Value -> Shared -> Prop} {lo hi : Int} {t u v : Tok} {tk : Nat} (I : Inv X pins σ H s) (h1 : lo.natAbs < 1000000000) (h2 : hi.natAbs < 1000000000)
    (q : R (Itd lo (lo - hi).toNat) H) : wpAny (model X.prog X.w) X.A (pyIter (.ref s.heap.objs.size)) (PIE X pins σ tg R) E { s with heap := s.heap.push { cls := .type "range", data := .fields #[.int lo t, .int hi u, .int (-1) v] }, toks := tk } := by
  refine wpAny_pyIter_range (IsRange.new ..) ?_ ?_
  · unfold Builtin.Range.small
    have e2 : Builtin.Range.rangeSize lo hi (-1) = ((lo - hi).toNat : Int) := by
      unfold Builtin.Range.rangeSize
      rw [if_neg (by decide)]
      split
      · rw [show -(-1 : Int) = 1 by decide, Int.ediv_one]; omega
      · omega
    rw [e2]
    simp only [Builtin.Range.rangeFitsLong, Bool.and_eq_true, Bool.or_eq_true, decide_eq_true_eq, beq_iff_eq, show ¬ (-1 : Int) > 0 by decide, if_false]
    omega
  have I1 : Inv X pins σ H { s with heap := s.heap.push { cls := .type "range", data := .fields #[.int lo t, .int hi u, .int (-1) v] }, toks := tk } := I.kept fun b o e => Heap.get?_push_of_some _ e
  refine ⟨(s.heap.push { cls := .type "range", data := .fields #[.int lo t, .int hi u, .int (-1) v] }).objs.size, [(s.heap.push { cls := .type "range", data := .fields #[.int lo t, .int hi u, .int (-1) v] }).objs.size], _, _, H, rfl,
    I1.kept (t' := tk) fun b o e => Heap.get?_push_of_some _ e, ziY _ lo (lo - hi).toNat, ?_, fun b hb => ?_, q⟩
  · have e1 : lo + ((0 : Nat) : Int) * (-1) = lo := by simp
    have e2 : (((lo - hi).toNat : Nat) : Int) - ((0 : Nat) : Int) = Builtin.Range.rangeSize lo hi (-1) := by
      unfold Builtin.Range.rangeSize
      rw [if_neg (by decide)]
      split
      · rw [show -(-1 : Int) = 1 by decide, Int.ediv_one]; omega
      · omega
    show IsRangeIter _ _ (lo + ((0 : Nat) : Int) * (-1)) ((((lo - hi).toNat : Nat) : Int) - ((0 : Nat) : Int)) (-1)
    rw [e1, e2]
    exact Heap.get?_push_size _ rfl
  · have e : b = (s.heap.push { cls := .type "range", data := .fields #[.int lo t, .int hi u, .int (-1) v] }).objs.size := by simpa using hb
    subst e
    exact I1.fpOk (Nat.le_refl _) (I1.hok.fresh (Nat.le_refl _))
theorem zj1 {lo : Int} {n : Nat} : Drw S X B φ H (rangeL n lo (-1)) (Itd lo n) := by
  refine ⟨fun φ' H' s => by rw [zbJ]; exact Nat.le_refl _, fun i φ' H' s hi => by rw [zbJ] at hi; exact hi, fun i φ' H' st x H2 B' hB s rs hi q => ?_⟩
  rw [zbJ] at hi
  obtain ⟨rfl, rfl⟩ := q
  refine ⟨.int (lo + i * (-1)), ?_, by simp only [RepV], fun _ _ e => e⟩
  rw [zeV, if_pos hi]
theorem zlr {j : Nat} (hg : Gl X "range") (hm : X.mg "range" = none) (ha : PE X a (tE S X ca)) (hb : PE X b (tE S X cb)) (hs : starEach [a, b, .UnaryOp .USub (.Constant (.int 1) j p3) p4] X.env = [(false, eval a X.env), (false, eval b X.env), (false, eval (.UnaryOp .USub (.Constant (.int 1) j p3) p4) X.env)] := by rfl)
    (hs1 : starEach [b, .UnaryOp .USub (.Constant (.int 1) j p3) p4] X.env = [(false, eval b X.env), (false, eval (.UnaryOp .USub (.Constant (.int 1) j p3) p4) X.env)] := by rfl) (hs2 : starEach [.UnaryOp .USub (.Constant (.int 1) j p3) p4] X.env = [(false, eval (.UnaryOp .USub (.Constant (.int 1) j p3) p4) X.env)] := by rfl) :
    PI X tg (.Call (.Name "range" p) [a, b, .UnaryOp .USub (.Constant (.int 1) j p3) p4] [] pos) (tI S X (.rangeD ca cb)) := by
  intro pins s σ H R I ⟨B, φ, st, ρ, rs, re, h⟩
  simp only [evi] at h
  have h0 : (tCons (tE S X ca) (tCons (tE S X cb) (tCons (tUn (rU fun i => .int (-i)) (tC (.int 1))) tNil))) σ H fun vs H1 => ∃ i j : Int, vs = [.int i, .int j, .int (-1)] /\ i.natAbs < 1000000000 /\ j.natAbs < 1000000000 /\ R (Itd i (i - j).toNat) H1 := by
    refine tE.bind rs re h fun x H1 v st1 φ1 s1 rs1 re1 rv h1 => tE.bind rs1 re1 h1 fun y H2 w st2 φ2 s2 rs2 re2 rw h2 => ?_
    obtain ⟨xs, e, h2⟩ := zkV h2
    obtain ⟨i, j, rfl, rfl, hi, hj, rfl⟩ := zno e
    simp only [RepV] at rv rw
    subst rv rw
    exact ⟨1, rfl, i, j, rfl, hi, hj, h2.ok rs2 zj1⟩
  refine Call_ (zg5 I hg hm boot_range (PyProof.Rows.callWith_type1 (thn (zdf ha (zdf hb (zdf (zpm znH pe_int) pa_nil hs2) (by rw [hs1, hs2])) (by rw [hs, hs1]) pos pins s σ H _ I h0) fun us s1 ⟨vs, H1, I1, r1, q1⟩ => ?_) (by rw [hs, hs1]) (by rw [hs1]; rfl)))
  obtain ⟨i, j, e, hi, hj, q⟩ := q1
  subst e
  cases r1 with
  | cons r rr =>
    cases rr with
    | cons r' rr =>
      cases rr with
      | cons r'' rr =>
        cases rr
        obtain ⟨t, rfl⟩ := r
        obtain ⟨t', rfl⟩ := r'
        obtain ⟨t'', rfl⟩ := r''
        exact call_range_3 (by decide) (zly I1 hi hj q) (.inl (PyProof.noPylong_small (by decide)))
end
end L2
namespace WK
open PySem L2 IC
theorem zat {K : PySem.W.Frag} {h : Heap} {mg : Str -> Option Value} {x : Str} {st : Stmt} {ps : List Str} {f : Addr} {oc : Value} {od an : Option Addr} {osl : Array (Option Value)} {kV doc pm cdv ct : Value} (X : K.In h) (G : h.Ns mainGlobals mg)
    (a : PySem.W.nsIn K mainGlobals x = some (some (.ref f))) (l : K.lookup f = some ⟨oc, od, .func (PySem.W.fnOf x x (defArgs st) (defBody st) (defScope st) .none kV doc pm an cdv ct), osl⟩) (c : PySem.W.codeIn K cdv x = true) (k : PySem.W.keepIn K (.ref f) = true)
    (hb : ∀ (kV doc pm : Value) (an : Option Addr) (cdv ct : Value) (us : List Value), us.length = ps.length -> bindArgs (PySem.W.fnOf x x (defArgs st) (defBody st) (defScope st) .none kV doc pm an cdv ct) ⟨us, []⟩ = pure (ps.zip us)) :
    Fn K mg x st ps f (PySem.W.fnOf x x (defArgs st) (defBody st) (defScope st) .none kV doc pm an cdv ct) := ⟨znN l c k, (znN l c k).binds hb, PySem.W.mg_of X G a⟩
def clx : Nat -> Addr := fun _ => 0
section
variable {K : PySem.W.Frag} {cl : Nat -> Addr} {B : Addr -> Prop} {φ : Ph} {H : Hp}
theorem za7 : RepL K cl B φ H [] [] := by simp only [RepL]
theorem zp {v : PV} {x : V} {vs : List PV} {xs : List V} (h : RepV K cl B φ H v x) (l : RepL K cl B φ H vs xs) : RepL K cl B φ H (v :: vs) (x :: xs) := by
  simp only [RepL]
  exact ⟨x, xs, rfl, h, l⟩
theorem zbp {y : Addr} {d : Option Addr} {its : Array Value} {n : Nat} {sl : Array (Option Value)} {xs : List V} {vs : List PV} (h : K.lookup y = some ⟨.type "tuple", d, .seq its n, sl⟩) (hz : its.size <= 1000) (r : Vals xs its.toList) (l : RepL K cl B φ H vs xs) : RepV K cl B φ H (.tp true vs) (.ref y) := by
  simp only [RepV]
  exact ⟨y, xs, rfl, .inr ⟨rfl, _, its, n, h, rfl, rfl, by rw [sizeLine_eq]; omega, r⟩, l⟩
end
theorem zpf {P : Program} {w : World} {outer : List PySem.Env} {H : Hp} {s : Shared} {e : Value} {s' : Shared} (h : CX1 P w outer H s (fun _ _ _ => False) e s') : False := by
  obtain ⟨_, _, _, _, _, _, _, _, _, _, _, _, _, _, z⟩ := h
  exact z
theorem zmg {K : PySem.W.Frag} {cl : Nat -> Addr} {B : Addr -> Prop} {φ : Ph} {H : Hp} : ∀ ns : List Int, RepL K cl B φ H (ns.map .int) (ns.map V.int)
  | [] => za7
  | n :: ns => zp (by simp only [RepV]) (zmg ns)
theorem zlV {K : PySem.W.Frag} {call : Nat -> List PV -> Store -> R PV} {fi : Nat} {H : Hp} {a : Addr} {ns : List Int} (ht : ∀ ns : List Int, ns.length <= 63 -> call fi [.scr (ns.map .int)] [] = .ok (.bl true) []) (hl : ns.length <= 63) (hS : SqL K H a (ns.map V.int)) :
    spI K clx call fi [.ref a] H (fun v _ => v = .bl true) fun _ _ _ => False := by
  refine ⟨fun _ => False, [], [], [.scr (ns.map .int)], ⟨rfl, fun m n a e => by simp at e, fun n a e => by simp at e, fun n o e => by simp at e, fun a z => by simp at z, fun a z => z.elim⟩, zp ?_ za7, ?_⟩
  · simp only [RepV]
    refine ⟨a, _, rfl, ?_, zmg ns⟩
    rcases hS with hS | hS
    · exact .inl ⟨hS, fun z => z, by simp⟩
    · exact .inr hS
  · rw [ht ns hl]
    intro x H' φ' _ _ r
    simpa only [RepV] using r
end WK
namespace IC
open PySem
def zd0 : PV := (.tp true [(.int 0), (.int 1), (.int 0)])
def znO : PV := (.tp true [(.str (Str.ofString "turned")), (.str (Str.ofString "bare"))])
def zf5 : PV := (.tp true [(.tp true [(.str (Str.ofString "m")), (.tp true [(.int 0), (.int 0), (.int 0), (.int 0)])]), (.tp true [(.str (Str.ofString "m")), (.tp true [(.int 1), (.int 0), (.int 0), (.int 0)])]), (.tp true [(.str (Str.ofString "m")), (.tp true [(.int 2), (.int 0), (.int 0), (.int 0)])]), (.tp true [(.str (Str.ofString "m")), (.tp true [(.int 3), (.int 0), (.int 0), (.int 0)])])])
def zkB : PV := (.tp true [(.str (Str.ofString "z")), (.tp true [(.int 0), (.int 0), (.int 0), (.int 0)])])
def zjq : PV := (.tp true [(.str (Str.ofString "sum")), (.str (Str.ofString "difference")), (.str (Str.ofString "compare")), (.str (Str.ofString "both")), (.str (Str.ofString "any")), (.str (Str.ofString "odd")), (.str (Str.ofString "product")), (.str (Str.ofString "signed product")), (.str (Str.ofString "quotient")), (.str (Str.ofString "signed quotient"))])
def zgU : PV := (.tp true [(.str (Str.ofString "both")), (.str (Str.ofString "any")), (.str (Str.ofString "odd"))])
def zf0 : PV := (.tp true [(.str (Str.ofString "s")), (.tp true [(.int 0), (.int 0), (.int 0), (.int 0)])])
def zhb : PV := (.tp true [(.str (Str.ofString "left")), (.str (Str.ofString "right")), (.str (Str.ofString "down")), (.str (Str.ofString "roll"))])
def zdY : PV := (.tp true [(.str (Str.ofString "t")), (.tp true [(.int 0), (.int 0), (.int 0), (.int 0)])])
def znZ : Fn := ⟨5, 5, true, (.cons (.ret (.tup (.cons (.var 0) (.cons (.tup (.cons (.var 1) (.cons (.var 2) (.cons (.var 3) (.cons (.var 4) .nil))))) .nil)))) .nil)⟩
def zf3 : Fn := ⟨1, 1, true, (.cons (.ret (.call 0 (appC (.cons (.var 0) (.cons (.neg (.cst (.int 1))) .nil)) (tailC [.inr 0, .inr 0, .inl (.cst (.int 1))])))) .nil)⟩
def znT : Fn := ⟨1, 1, true, (.cons (.ret (.blt .tuple (.cons (.comp [none] (.n 0) (.seq (.var 0)) (.cst (.bl true)) (.tup (.cons (.cst (.str (Str.ofString "row"))) (.cons (.var 0) .nil)))) .nil))) .nil)⟩
def zjB : Fn := ⟨3, 3, true, (.cons (.ret (.tup (.cons (.tup (.cons (.cst (.str (Str.ofString "rounds"))) (.cons (.var 0) (.cons (.var 1) (.cons (.var 2) .nil))))) .nil))) .nil)⟩
def zjJ : Fn := ⟨5, 5, true, (.cons (.ret (.tup (.cons (.cst (.str (Str.ofString "slice"))) (.cons (.var 0) (.cons (.tup (.cons (.cst (.int 0)) (.cons (.cst (.int 0)) (.cons (.cst (.int 0)) (.cons (.cst (.int 0)) .nil))))) (.cons (.tup (.cons (.var 1) (.cons (.var 2) (.cons (.var 3) (.cons (.var 4) .nil))))) .nil)))))) .nil)⟩
def znX : Fn := ⟨6, 6, true, (.cons (.ret (.tup (.cons (.var 0) (.cons (.tup (.cons (.cst (.int 0)) (.cons (.var 2) (.cons (.cst (.int 0)) (.cons (.var 3) (.cons (.var 4) (.cons (.var 5) .nil))))))) (.cons (.var 1) .nil))))) .nil)⟩
def zgy : Fn := ⟨1, 1, true, (.cons (.ret (.tup (.cons (.cst (.str (Str.ofString "sum"))) (.cons (.var 0) (.cons (.cst zkB) (.cons (.cst zkB) .nil)))))) .nil)⟩
def zde : Fn := ⟨1, 1, true, (.cons (.ret (.lst (.cons (.tup (.cons (.cst (.str (Str.ofString "set"))) (.cons (.var 0) (.cons (.cst (.int 1)) .nil)))) (.cons (.tup (.cons (.cst (.str (Str.ofString "less"))) (.cons (.var 0) (.cons (.var 0) (.cons (.cst zkB) .nil))))) .nil)))) .nil)⟩
def zex : Fn := ⟨3, 4, true, (.cons (.asg (.n 3) (.tup (.cons (.cst (.str (Str.ofString "any"))) (.cons (.cst zf0) (.cons (.cst zf0) (.cons (.call 0 (appC (.cons (.var 0) .nil) (tailC [.inr 0, .inl (.cst (.int 1)), .inr 0, .inl (.var 1)]))) .nil)))))) (.cons (.ret (.bin .add (.bin .add (.call 2 (.cons (.lst (.cons (.tup (.cons (.cst (.str (Str.ofString "set"))) (.cons (.cst zf0) (.cons (.cst (.int 0)) .nil)))) .nil)) .nil)) (.call 3 (.cons (.var 2) (.cons (.tup .nil) (.cons (.call 2 (.cons (.lst (.cons (.var 3) .nil)) .nil)) .nil))))) (.call 2 (.cons (.lst (.cons (.tup (.cons (.cst (.str (Str.ofString "ask"))) (.cons (.cst zf0) .nil))) .nil)) .nil)))) .nil))⟩
def zdL : Fn := ⟨2, 3, true, (.cons (.asg (.n 2) (.lst (.cons (.tup (.cons (.cst (.str (Str.ofString "twice"))) (.cons (.cst zdY) (.cons (.call 0 (appC (.cons (.cst (.str (Str.ofString "c"))) (.cons (.bin .sub (.var 0) (.cst (.int 1))) .nil)) (tailC [.inr 0, .inr 0, .inl (.var 1)]))) .nil)))) (.cons (.call 6 (.cons (.idx (.cst zf5) (.cst (.int 3))) .nil)) .nil)))) (.cons (.ret (.bin .add (.call 8 (.cons (.cst (.str (Str.ofString "c"))) (.cons (.cst (.int 0)) (.cons (.tup (.cons (.var 0) (.cons (.var 1) (.cons (.cst (.int 0)) .nil)))) .nil)))) (.call 2 (.cons (.bin .add (.call 7 (.cons (.idx (.cst zf5) (.cst (.int 2))) .nil)) (.var 2)) .nil)))) .nil))⟩
def zes : Fn := ⟨0, 3, true, (.cons (.asg (.n 0) (.tup (.cons (.cst (.str (Str.ofString "sum"))) (.cons (.call 0 (appC (.cons (.cst (.str (Str.ofString "c"))) .nil) (tailC [.inr 0, .inl (.cst (.int 1)), .inr 0, .inr 0]))) (.cons (.call 0 (appC (.cons (.cst (.str (Str.ofString "a"))) .nil) (tailC [.inr 0, .inl (.cst (.int 1)), .inr 0, .inr 0]))) (.cons (.call 0 (appC (.cons (.cst (.str (Str.ofString "b"))) .nil) (tailC [.inr 0, .inl (.cst (.int 1)), .inr 0, .inr 0]))) .nil)))))) (.cons (.asg (.n 1) (.tup (.cons (.call 5 (appC (.cons (.cst (.int 1)) (.cons (.tup (.cons (.call 4 (appC (.cons (.cst (.str (Str.ofString "a"))) .nil) (tailC [.inr 0, .inl (.cst (.int 1)), .inr 0, .inr 0]))) .nil)) .nil)) (tailC [.inr 0, .inr 0, .inr 0, .inr 0]))) (.cons (.call 5 (appC (.cons (.cst (.int 1)) (.cons (.tup (.cons (.call 4 (appC (.cons (.cst (.str (Str.ofString "b"))) .nil) (tailC [.inr 0, .inl (.cst (.int 1)), .inr 0, .inr 0]))) .nil)) .nil)) (tailC [.inr 0, .inr 0, .inr 0, .inr 0]))) (.cons (.call 5 (appC (.cons (.neg (.cst (.int 1))) (.cons (.tup (.cons (.call 4 (appC (.cons (.cst (.str (Str.ofString "c"))) .nil) (tailC [.inr 0, .inl (.cst (.int 1)), .inr 0, .inr 0]))) .nil)) .nil)) (tailC [.inr 0, .inr 0, .inr 0, .inr 0]))) (.cons (.call 5 (appC (.cons (.neg (.cst (.int 1))) (.cons (.tup (.cons (.tup (.cons (.cst (.str (Str.ofString "mark"))) .nil)) .nil)) .nil)) (tailC [.inr 0, .inl (.cst (.int 1)), .inr 0, .inr 0]))) .nil)))))) (.cons (.asg (.n 2) (.call 15 (.cons (.call 1 (.cons (.cst (.str (Str.ofString "c"))) .nil)) (.cons (.call 1 (.cons (.cst (.str (Str.ofString "a"))) .nil)) (.cons (.call 1 (.cons (.cst (.str (Str.ofString "b"))) .nil)) .nil))))) (.cons (.ret (.bin .add (.bin .add (.call 14 (.cons (.var 0) (.cons (.var 1) .nil))) (.var 2)) (.call 9 (.cons (.cst (.int 0)) (.cons (.cst (.int 1)) .nil))))) .nil))))⟩
def zcc : Fn := ⟨0, 3, true, (.cons (.asg (.n 0) (.tup (.cons (.cst (.str (Str.ofString "less"))) (.cons (.call 0 (appC (.cons (.cst (.str (Str.ofString "c"))) .nil) (tailC [.inr 0, .inl (.cst (.int 1)), .inr 0, .inr 0]))) (.cons (.call 0 (appC (.cons (.cst (.str (Str.ofString "a"))) .nil) (tailC [.inr 0, .inl (.cst (.int 1)), .inr 0, .inr 0]))) (.cons (.call 0 (appC (.cons (.cst (.str (Str.ofString "b"))) .nil) (tailC [.inr 0, .inl (.cst (.int 1)), .inr 0, .inr 0]))) .nil)))))) (.cons (.asg (.n 1) (.tup (.cons (.call 5 (appC (.cons (.cst (.int 1)) (.cons (.tup (.cons (.call 4 (appC (.cons (.cst (.str (Str.ofString "a"))) .nil) (tailC [.inr 0, .inl (.cst (.int 1)), .inr 0, .inr 0]))) .nil)) .nil)) (tailC [.inr 0, .inr 0, .inr 0, .inr 0]))) (.cons (.call 5 (appC (.cons (.neg (.cst (.int 1))) (.cons (.tup (.cons (.call 4 (appC (.cons (.cst (.str (Str.ofString "b"))) .nil) (tailC [.inr 0, .inl (.cst (.int 1)), .inr 0, .inr 0]))) .nil)) .nil)) (tailC [.inr 0, .inr 0, .inr 0, .inr 0]))) (.cons (.call 5 (appC (.cons (.neg (.cst (.int 1))) (.cons (.tup (.cons (.call 4 (appC (.cons (.cst (.str (Str.ofString "c"))) .nil) (tailC [.inr 0, .inl (.cst (.int 1)), .inr 0, .inr 0]))) .nil)) .nil)) (tailC [.inr 0, .inr 0, .inr 0, .inr 0]))) (.cons (.call 5 (appC (.cons (.cst (.int 1)) (.cons (.tup (.cons (.tup (.cons (.cst (.str (Str.ofString "mark"))) .nil)) .nil)) .nil)) (tailC [.inr 0, .inl (.cst (.int 1)), .inr 0, .inr 0]))) .nil)))))) (.cons (.asg (.n 2) (.call 15 (.cons (.call 1 (.cons (.cst (.str (Str.ofString "a"))) .nil)) (.cons (.call 1 (.cons (.cst (.str (Str.ofString "b"))) .nil)) (.cons (.call 1 (.cons (.cst (.str (Str.ofString "c"))) .nil)) .nil))))) (.cons (.ret (.bin .add (.bin .add (.call 14 (.cons (.var 0) (.cons (.var 1) .nil))) (.var 2)) (.call 9 (.cons (.cst (.int 0)) (.cons (.cst (.int 1)) .nil))))) .nil))))⟩
def zcW : Fn := ⟨0, 3, true, (.cons (.asg (.n 0) (.tup (.cons (.cst (.str (Str.ofString "less"))) (.cons (.call 0 (appC (.cons (.cst (.str (Str.ofString "c"))) .nil) (tailC [.inr 0, .inl (.cst (.int 1)), .inr 0, .inr 0]))) (.cons (.cst zkB) (.cons (.call 0 (appC (.cons (.cst (.str (Str.ofString "a"))) .nil) (tailC [.inr 0, .inl (.cst (.int 1)), .inr 0, .inr 0]))) .nil)))))) (.cons (.asg (.n 1) (.tup (.cons (.call 5 (appC (.cons (.cst (.int 1)) (.cons (.tup (.cons (.call 4 (appC (.cons (.cst (.str (Str.ofString "a"))) .nil) (tailC [.inr 0, .inl (.cst (.int 1)), .inr 0, .inr 0]))) .nil)) .nil)) (tailC [.inr 0, .inr 0, .inr 0, .inr 0]))) (.cons (.call 5 (appC (.cons (.cst (.int 1)) (.cons (.tup (.cons (.call 4 (appC (.cons (.cst (.str (Str.ofString "c"))) .nil) (tailC [.inr 0, .inl (.cst (.int 1)), .inr 0, .inr 0]))) .nil)) .nil)) (tailC [.inr 0, .inr 0, .inr 0, .inr 0]))) (.cons (.call 5 (appC (.cons (.neg (.cst (.int 1))) (.cons (.tup (.cons (.tup (.cons (.cst (.str (Str.ofString "mark"))) .nil)) .nil)) .nil)) (tailC [.inr 0, .inl (.cst (.int 1)), .inr 0, .inr 0]))) .nil))))) (.cons (.asg (.n 2) (.call 15 (.cons (.cst zkB) (.cons (.call 1 (.cons (.cst (.str (Str.ofString "a"))) .nil)) (.cons (.call 1 (.cons (.cst (.str (Str.ofString "c"))) .nil)) .nil))))) (.cons (.ret (.bin .add (.bin .add (.call 14 (.cons (.var 0) (.cons (.var 1) .nil))) (.var 2)) (.call 9 (.cons (.cst (.int 0)) (.cons (.cst (.int 1)) .nil))))) .nil))))⟩
def zdK : Fn := ⟨0, 2, true, (.cons (.asg (.n 0) (.tup (.cons (.call 5 (appC (.cons (.cst (.int 1)) (.cons (.tup (.cons (.call 4 (appC (.cons (.cst (.str (Str.ofString "a"))) .nil) (tailC [.inr 0, .inl (.cst (.int 1)), .inr 0, .inr 0]))) .nil)) .nil)) (tailC [.inr 0, .inr 0, .inr 0, .inr 0]))) (.cons (.call 5 (appC (.cons (.cst (.int 1)) (.cons (.tup (.cons (.call 4 (appC (.cons (.cst (.str (Str.ofString "c"))) .nil) (tailC [.inr 0, .inl (.cst (.int 1)), .inr 0, .inr 0]))) .nil)) .nil)) (tailC [.inr 0, .inr 0, .inr 0, .inr 0]))) (.cons (.call 5 (appC (.cons (.neg (.cst (.int 1))) (.cons (.tup .nil) .nil)) (tailC [.inr 0, .inl (.cst (.int 1)), .inr 0, .inr 0]))) (.cons (.call 5 (appC (.cons (.cst (.int 1)) (.cons (.tup .nil) .nil)) (tailC [.inr 0, .inr 0, .inr 0, .inr 0]))) .nil)))))) (.cons (.asg (.n 1) (.tup (.cons (.cst (.str (Str.ofString "bare"))) (.cons (.call 0 (appC (.cons (.cst (.str (Str.ofString "c"))) .nil) (tailC [.inr 0, .inl (.cst (.int 1)), .inr 0, .inr 0]))) (.cons (.call 0 (appC (.cons (.cst (.str (Str.ofString "a"))) .nil) (tailC [.inr 0, .inl (.cst (.int 1)), .inr 0, .inr 0]))) .nil))))) (.cons (.ret (.bin .add (.call 3 (.cons (.cst zd0) (.cons (.var 0) (.cons (.call 2 (.cons (.lst (.cons (.var 1) .nil)) .nil)) .nil)))) (.call 9 (.cons (.cst (.int 0)) (.cons (.cst (.int 1)) .nil))))) .nil)))⟩
def zhY : Fn := ⟨2, 2, true, (.cons (.ret (.bin .add (.bin .add (.call 2 (.cons (.lst (.cons (.tup (.cons (.cst (.str (Str.ofString "mark"))) (.cons (.cst (.int 0)) .nil))) .nil)) .nil)) (.call 3 (.cons (.cst zd0) (.cons (.var 1) (.cons (.call 2 (.cons (.lst (.cons (.var 0) .nil)) .nil)) .nil))))) (.call 2 (.cons (.lst (.cons (.call 6 (.cons (.idx (.cst zf5) (.cst (.int 0))) .nil)) .nil)) .nil)))) .nil)⟩
def zfN : Fn := ⟨3, 3, true, (.cons (.ret (.call 2 (.cons (.lst (.cons (.tup (.cons (.cst (.str (Str.ofString "odd"))) (.cons (.cst zdY) (.cons (.var 0) (.cons (.var 1) .nil))))) (.cons (.tup (.cons (.cst (.str (Str.ofString "odd"))) (.cons (.cst zf0) (.cons (.var 0) (.cons (.var 2) .nil))))) (.cons (.tup (.cons (.cst (.str (Str.ofString "both"))) (.cons (.cst zdY) (.cons (.cst zdY) (.cons (.cst zf0) .nil))))) (.cons (.tup (.cons (.cst (.str (Str.ofString "twice"))) (.cons (.cst zdY) (.cons (.cst zdY) .nil)))) (.cons (.call 6 (.cons (.idx (.cst zf5) (.cst (.int 1))) .nil)) .nil)))))) .nil))) .nil)⟩
def zh2 : Fn := ⟨1, 1, true, (.cons (.ite (.not (.call 17 (.cons (.var 0) .nil))) (.cons .nope .nil) .nil) (.cons (.ite (.cmp .eq (.idx (.var 0) (.cst (.int 0))) (.cst (.str (Str.ofString "led")))) (.cons .nope .nil) .nil) (.cons (.ite (.cmp .isin (.idx (.var 0) (.cst (.int 0))) (.cst zhb)) (.cons .nope .nil) .nil) (.cons (.ite (.cmp .isin (.idx (.var 0) (.cst (.int 0))) (.cst zgU)) (.cons .nope .nil) .nil) (.cons (.ret (.call 18 (.cons (.idx (.var 0) (.cst (.int 0))) .nil))) .nil)))))⟩
def zhU : Fn := ⟨1, 1, true, (.cons (.ite (.or (.not (.isi (.var 0) [.tuple])) (.cmp .eq (.blt .len (.cons (.var 0) .nil)) (.cst (.int 0)))) (.cons .nope .nil) .nil) (.cons (.ite (.cmp .eq (.idx (.var 0) (.cst (.int 0))) (.cst (.str (Str.ofString "led")))) (.cons .nope .nil) .nil) (.cons (.ite (.cmp .isin (.idx (.var 0) (.cst (.int 0))) (.cst zhb)) (.cons .nope .nil) .nil) (.cons (.ret (.and (.cmp .eq (.blt .len (.cons (.var 0) .nil)) (.cst (.int 1))) (.or (.cmp .isin (.idx (.var 0) (.cst (.int 0))) (.cst zjq)) (.cmp .isin (.idx (.var 0) (.cst (.int 0))) (.cst znO))))) .nil))))⟩
def zc4 : Fn := ⟨1, 1, true, (.cons (.ite (.cmp .eq (.var 0) (.cst (.str (Str.ofString "sum")))) (.cons (.ret (.call 10 .nil)) .nil) .nil) (.cons (.ite (.cmp .eq (.var 0) (.cst (.str (Str.ofString "difference")))) (.cons (.ret (.call 11 .nil)) .nil) .nil) (.cons (.ite (.cmp .eq (.var 0) (.cst (.str (Str.ofString "turned")))) (.cons (.ret (.call 12 .nil)) .nil) .nil) (.cons (.ite (.cmp .eq (.var 0) (.cst (.str (Str.ofString "compare")))) (.cons .nope .nil) .nil) (.cons (.ite (.cmp .eq (.var 0) (.cst (.str (Str.ofString "bare")))) (.cons (.ret (.call 13 .nil)) .nil) .nil) (.cons .nope (.cons .nope (.cons .nope (.cons .nope .nil)))))))))⟩
def zfL : Fn := ⟨1, 1, false, (.cons (.ret (.newl (.cons (.slc (.var 0) (.cst .non) (.cst (.int 63))) (.cons (.cst (.int 0)) (.cons (.cst (.int 0)) (.cons (.cst (.bl false)) .nil)))))) .nil)⟩
def f_qmixed : Fn := ⟨1, 8, true, (.cons (.asg (.n 1) (.tup (.cons (.cst (.int 2147483647)) (.cons (.cst (.int 2147483629)) (.cons (.cst (.int 2147483587)) (.cons (.cst (.int 2147483579)) (.cons (.cst (.int 2147483563)) .nil))))))) (.cons (.asg (.n 2) (.cst (.int 0))) (.cons (.for (.t [3, 4]) (.enum (.var 1)) (.cons (.asg (.n 5) (.bin .add (.var 0) (.idx (.tup (.cons (.cst (.int 11)) (.cons (.cst (.int 101)) (.cons (.cst (.int 1009)) (.cons (.cst (.int 10007)) (.cons (.cst (.int 100003)) .nil)))))) (.var 3)))) (.cons (.asg (.n 5) (.bin .mod (.bin .mul (.var 5) (.bin .add (.cst (.int 48271)) (.bin .mul (.cst (.int 2)) (.var 3)))) (.var 4))) (.cons (.asg (.n 6) (.bin .mod (.bin .mul (.var 5) (.var 5)) (.var 4))) (.cons (.asg (.n 7) (.bin .mod (.bin .mul (.bin .mod (.bin .mul (.var 6) (.var 6)) (.var 4)) (.var 5)) (.var 4))) (.cons (.asg (.n 2) (.bin .add (.bin .mul (.var 2) (.var 4)) (.var 7))) .nil)))))) (.cons (.ret (.var 2)) .nil))))⟩
def zeY : Fn := ⟨1, 4, false, (.cons (.asg (.t [1, 2]) (.tup (.cons (.idx (.var 0) (.cst (.int 0))) (.cons (.idx (.var 0) (.cst (.int 1))) .nil)))) (.cons (.asg (.n 3) (.bin .add (.bin .mul (.cst (.int 31)) (.var 2)) (.cst (.int 7)))) (.cons (.ite (.cmp .gt (.blt .len (.cons (.var 1) .nil)) (.cst (.int 0))) (.cons (.asg (.n 3) (.bin .mul (.cst (.int 104729)) (.bin .fdiv (.var 2) (.blt .len (.cons (.var 1) .nil))))) (.cons (.asg (.n 3) (.bin .add (.var 3) (.idx (.var 1) (.bin .mod (.var 2) (.blt .len (.cons (.var 1) .nil)))))) .nil)) .nil) (.cons (.six (.var 0) (.cst (.int 1)) (.bin .add (.var 2) (.cst (.int 1)))) (.cons (.six (.var 0) (.cst (.int 3)) (.or (.cmp .ge (.var 2) (.blt .len (.cons (.var 1) .nil))) (.cmp .lt (.var 3) (.bin .pow (.cst (.int 10)) (.cst (.int 18)))))) (.cons (.ite (.idx (.var 0) (.cst (.int 3))) (.cons (.six (.var 0) (.cst (.int 2)) (.call 20 (.cons (.var 3) .nil))) .nil) (.cons (.six (.var 0) (.cst (.int 2)) (.bin .sub (.var 3) (.bin .pow (.cst (.int 10)) (.cst (.int 18))))) .nil)) .nil))))))⟩
def f_qtake : Fn := ⟨2, 4, false, (.cons (.asg (.n 2) (.cst (.int 0))) (.cons (.while (.and (.cmp .lt (.var 2) (.cst (.int 64))) (.or (.cmp .eq (.idx (.var 0) (.cst (.int 2))) (.cst (.int 0))) (.and (.idx (.var 0) (.cst (.int 3))) (.cmp .lt (.idx (.var 0) (.cst (.int 2))) (.bin .mul (.var 1) (.cst (.int 4096))))))) (.cons (.expr (.call 21 (.cons (.var 0) .nil))) (.cons (.aug 2 .add (.cst (.int 1))) (.cons (.ite (.and (.idx (.var 0) (.cst (.int 3))) (.cmp .lt (.idx (.var 0) (.cst (.int 2))) (.bin .mul (.var 1) (.cst (.int 4096))))) (.cons (.six (.var 0) (.cst (.int 2)) (.bin .add (.idx (.var 0) (.cst (.int 2))) (.bin .mul (.bin .mul (.var 1) (.cst (.int 4096))) (.bin .add (.cst (.int 1)) (.bin .mod (.idx (.var 0) (.cst (.int 2))) (.cst (.int 4093))))))) .nil) .nil) .nil)))) (.cons (.asg (.n 3) (.bin .mod (.idx (.var 0) (.cst (.int 2))) (.var 1))) (.cons (.six (.var 0) (.cst (.int 2)) (.bin .fdiv (.idx (.var 0) (.cst (.int 2))) (.var 1))) (.cons (.ret (.var 3)) .nil)))))⟩
def zfB : Fn := ⟨2, 2, false, (.cons (.ret (.tup (.cons (.bin .add (.cst (.int 4)) (.call 22 (.cons (.var 0) (.cons (.cst (.int 13)) .nil)))) (.cons (.bin .add (.cst (.int 1)) (.call 22 (.cons (.var 0) (.cons (.var 1) .nil)))) .nil)))) .nil)⟩
def f_qworth : Fn := ⟨3, 13, false, (.cons (.asg (.n 3) (.call 22 (.cons (.var 0) (.cons (.cst (.int 12)) .nil)))) (.cons (.asg (.n 4) (.cst (.int 1))) (.cons (.for (.n 5) (.range1 (.bin .mul (.var 1) (.var 2))) (.cons (.asg (.n 4) (.bin .mul (.cst (.int 2)) (.var 4))) .nil)) (.cons (.asg (.n 6) (.tup (.cons (.cst (.int 0)) (.cons (.cst (.int 1)) (.cons (.bin .sub (.var 4) (.cst (.int 1))) (.cons (.bin .fdiv (.var 4) (.cst (.int 2))) (.cons (.bin .sub (.bin .fdiv (.var 4) (.cst (.int 2))) (.cst (.int 1))) (.cons (.bin .sub (.var 4) (.cst (.int 2))) .nil)))))))) (.cons (.ite (.cmp .lt (.var 3) (.cst (.int 6))) (.cons (.ret (.idx (.var 6) (.var 3))) .nil) .nil) (.cons (.asg (.n 7) (.call 22 (.cons (.var 0) (.cons (.var 4) .nil)))) (.cons (.ite (.cmp .eq (.var 3) (.cst (.int 6))) (.cons (.asg (.n 8) (.cst (.int 1))) (.cons (.for (.n 5) (.range1 (.call 22 (.cons (.var 0) (.cons (.bin .mul (.var 1) (.var 2)) .nil)))) (.cons (.asg (.n 8) (.bin .mul (.cst (.int 2)) (.var 8))) .nil)) (.cons (.ret (.bin .mul (.bin .fdiv (.var 7) (.var 8)) (.var 8))) .nil))) .nil) (.cons (.ite (.cmp .eq (.var 3) (.cst (.int 7))) (.cons (.asg (.n 8) (.cst (.int 1))) (.cons (.for (.n 5) (.range1 (.call 22 (.cons (.var 0) (.cons (.bin .mul (.var 1) (.var 2)) .nil)))) (.cons (.asg (.n 8) (.bin .mul (.cst (.int 2)) (.var 8))) .nil)) (.cons (.ret (.bin .sub (.var 4) (.var 8))) .nil))) .nil) (.cons (.ite (.cmp .gt (.var 3) (.cst (.int 9))) (.cons (.ret (.var 7)) .nil) .nil) (.cons (.asg (.n 9) (.cst (.int 1))) (.cons (.for (.n 5) (.range1 (.var 1)) (.cons (.asg (.n 9) (.bin .mul (.cst (.int 2)) (.var 9))) .nil)) (.cons (.asg (.n 10) (.cst (.int 0))) (.cons (.for (.n 5) (.range1 (.var 2)) (.cons (.asg (.n 11) (.bin .mod (.bin .fdiv (.var 7) (.bin .add (.var 5) (.cst (.int 1)))) (.var 9))) (.cons (.asg (.n 12) (.tup (.cons (.cst (.int 0)) (.cons (.cst (.int 1)) (.cons (.bin .sub (.var 9) (.cst (.int 1))) (.cons (.bin .fdiv (.var 9) (.cst (.int 2))) (.cons (.var 11) .nil))))))) (.cons (.asg (.n 10) (.bin .add (.bin .mul (.var 10) (.var 9)) (.idx (.var 12) (.call 22 (.cons (.var 0) (.cons (.cst (.int 5)) .nil)))))) .nil)))) (.cons (.ret (.var 10)) .nil))))))))))))))⟩
def zf7 : Fn := ⟨1, 3, true, (.cons (.asg (.n 1) (.cst (.int 1))) (.cons (.for (.n 2) (.range1 (.var 0)) (.cons (.asg (.n 1) (.bin .mul (.cst (.int 2)) (.var 1))) .nil)) (.cons (.ret (.var 1)) .nil)))⟩
def zfH : Fn := ⟨3, 6, true, (.cons (.asg (.n 3) (.call 25 (.cons (.var 1) .nil))) (.cons (.asg (.n 4) (.newl .nil)) (.cons (.for (.n 5) (.range1 (.var 2)) (.cons (.expr (.mth .append (.var 4) (.cons (.bin .mod (.var 0) (.var 3)) .nil))) (.cons (.asg (.n 0) (.bin .fdiv (.var 0) (.var 3))) .nil))) (.cons (.ret (.blt .tuple (.cons (.var 4) .nil))) .nil))))⟩
def zjs : Fn := ⟨1, 1, true, (.cons (.ret (.and (.isi (.var 0) [.int]) (.not (.isi (.var 0) [.bool])))) .nil)⟩
def zh6 : Fn := ⟨3, 3, true, (.cons (.ite (.or (.not (.isi (.var 0) [.tuple])) (.cmp .ne (.blt .len (.cons (.var 0) .nil)) (.var 1))) (.cons .nope .nil) .nil) (.cons (.ret (.blt .all (.cons (.comp [none, some 2] (.n 0) (.seq (.var 0)) (.cst (.bl true)) (.and (.call 27 (.cons (.var 0) .nil)) (.chain .le .le (.bin .sub (.cst (.int 0)) (.var 1)) (.var 0) (.var 1)))) .nil))) .nil))⟩
def zhW : Fn := ⟨1, 1, true, (.cons (.ret (.and (.isi (.var 0) [.str]) (.and (.cmp .eq (.blt .len (.cons (.var 0) .nil)) (.cst (.int 1))) (.cmp .isin (.var 0) (.cst (.str (Str.ofString "abcdefghijklmnopqrstuvwxyz"))))))) .nil)⟩
def zec : Fn := ⟨1, 1, true, (.cons (.ret (.and (.isi (.var 0) [.tuple]) (.and (.cmp .eq (.blt .len (.cons (.var 0) .nil)) (.cst (.int 2))) (.and (.call 29 (.cons (.idx (.var 0) (.cst (.int 0))) .nil)) (.call 28 (.cons (.idx (.var 0) (.cst (.int 1))) (.cons (.cst (.int 4)) (.cons (.cst (.int 200)) .nil)))))))) .nil)⟩
def zdO : Fn := ⟨1, 2, true, (.cons (.ite (.or (.not (.isi (.var 0) [.tuple])) (.or (.cmp .lt (.blt .len (.cons (.var 0) .nil)) (.cst (.int 2))) (.not (.isi (.idx (.var 0) (.cst (.int 0))) [.str])))) (.cons .nope .nil) .nil) (.cons (.ite (.cmp .eq (.idx (.var 0) (.cst (.int 0))) (.cst (.str (Str.ofString "mark")))) (.cons (.ret (.and (.cmp .eq (.blt .len (.cons (.var 0) .nil)) (.cst (.int 2))) (.and (.call 27 (.cons (.idx (.var 0) (.cst (.int 1))) .nil)) (.cmp .isin (.idx (.var 0) (.cst (.int 1))) (.tup (.cons (.cst (.int 0)) (.cons (.cst (.int 1)) .nil))))))) .nil) .nil) (.cons (.ite (.cmp .eq (.idx (.var 0) (.cst (.int 0))) (.cst (.str (Str.ofString "ask")))) (.cons (.ret (.and (.cmp .eq (.blt .len (.cons (.var 0) .nil)) (.cst (.int 2))) (.call 30 (.cons (.idx (.var 0) (.cst (.int 1))) .nil)))) .nil) .nil) (.cons (.ite (.cmp .eq (.idx (.var 0) (.cst (.int 0))) (.cst (.str (Str.ofString "set")))) (.cons (.ret (.and (.cmp .eq (.blt .len (.cons (.var 0) .nil)) (.cst (.int 3))) (.and (.call 30 (.cons (.idx (.var 0) (.cst (.int 1))) .nil)) (.and (.call 27 (.cons (.idx (.var 0) (.cst (.int 2))) .nil)) (.cmp .isin (.idx (.var 0) (.cst (.int 2))) (.tup (.cons (.cst (.int 0)) (.cons (.cst (.int 1)) .nil)))))))) .nil) .nil) (.cons (.asg (.n 1) (.newd [((Str.ofString "move"), 3), ((Str.ofString "bare"), 3), ((Str.ofString "twice"), 3), ((Str.ofString "half"), 3), ((Str.ofString "sum"), 4), ((Str.ofString "less"), 4), ((Str.ofString "both"), 4), ((Str.ofString "any"), 4), ((Str.ofString "odd"), 4)])) (.cons (.dput (.var 1) (.cst (.str (Str.ofString "times"))) (.cst (.int 5))) (.cons (.ite (.or (.cmp .ne (.mth .get (.var 1) (.cons (.idx (.var 0) (.cst (.int 0))) (.cons (.cst (.int 0)) .nil))) (.blt .len (.cons (.var 0) .nil))) (.not (.blt .all (.cons (.comp [none] (.n 0) (.seq (.slc (.var 0) (.cst (.int 1)) (.cst .non))) (.cst (.bl true)) (.call 30 (.cons (.var 0) .nil))) .nil)))) (.cons .nope .nil) .nil) (.cons (.ret (.or (.cmp .ne (.idx (.var 0) (.cst (.int 0))) (.cst (.str (Str.ofString "times")))) (.cmp .ne (.idx (.var 0) (.cst (.int 1))) (.idx (.var 0) (.cst (.int 2)))))) .nil))))))))⟩
def zjy : Fn := ⟨1, 1, true, (.cons (.ite (.cmp .eq (.var 0) (.tup (.cons (.cst (.str (Str.ofString "mark"))) .nil))) (.cons (.ret (.cst (.bl true))) .nil) .nil) (.cons (.ite (.or (.not (.isi (.var 0) [.tuple])) (.or (.cmp .ne (.blt .len (.cons (.var 0) .nil)) (.cst (.int 4))) (.or (.cmp .ne (.idx (.var 0) (.cst (.int 0))) (.cst (.str (Str.ofString "slice")))) (.not (.call 29 (.cons (.idx (.var 0) (.cst (.int 1))) .nil)))))) (.cons .nope .nil) .nil) (.cons (.ret (.and (.call 28 (.cons (.idx (.var 0) (.cst (.int 2))) (.cons (.cst (.int 4)) (.cons (.cst (.int 200)) .nil)))) (.call 28 (.cons (.idx (.var 0) (.cst (.int 3))) (.cons (.cst (.int 4)) (.cons (.cst (.int 200)) .nil)))))) .nil)))⟩
def zdJ : Fn := ⟨1, 2, true, (.cons (.ite (.or (.not (.isi (.var 0) [.tuple])) (.cmp .gt (.blt .len (.cons (.var 0) .nil)) (.cst (.int 20)))) (.cons .nope .nil) .nil) (.cons (.for (.n 1) (.seq (.var 0)) (.cons (.ite (.or (.not (.isi (.var 1) [.tuple])) (.or (.cmp .ne (.blt .len (.cons (.var 1) .nil)) (.cst (.int 3))) (.not (.call 28 (.cons (.idx (.var 1) (.cst (.int 1))) (.cons (.cst (.int 6)) (.cons (.cst (.int 200)) .nil))))))) (.cons .nope .nil) .nil) (.cons (.ite (.or (.not (.call 27 (.cons (.idx (.var 1) (.cst (.int 0))) .nil))) (.or (.cmp .ge (.blt .abs (.cons (.idx (.var 1) (.cst (.int 0))) .nil)) (.bin .pow (.cst (.int 10)) (.cst (.int 40)))) (.not (.isi (.idx (.var 1) (.cst (.int 2))) [.tuple])))) (.cons .nope .nil) .nil) (.cons (.ite (.or (.cmp .gt (.blt .len (.cons (.idx (.var 1) (.cst (.int 2))) .nil)) (.cst (.int 2))) (.not (.blt .all (.cons (.comp [none] (.n 0) (.seq (.idx (.var 1) (.cst (.int 2)))) (.cst (.bl true)) (.call 32 (.cons (.var 0) .nil))) .nil)))) (.cons .nope .nil) .nil) .nil)))) (.cons (.ret (.cst (.bl true))) .nil)))⟩
def zms : Fn := ⟨2, 2, true, (.cons (.ite (.or (.not (.isi (.var 0) [.tuple])) (.cmp .lt (.blt .len (.cons (.var 0) .nil)) (.cst (.int 2)))) (.cons .nope .nil) .nil) (.cons (.ite (.cmp .eq (.idx (.var 0) (.cst (.int 0))) (.cst (.str (Str.ofString "row")))) (.cons (.ret (.and (.cmp .eq (.blt .len (.cons (.var 0) .nil)) (.cst (.int 2))) (.call 31 (.cons (.idx (.var 0) (.cst (.int 1))) .nil)))) .nil) .nil) (.cons (.ite (.or (.cmp .ne (.idx (.var 0) (.cst (.int 0))) (.cst (.str (Str.ofString "rounds")))) (.or (.cmp .ne (.blt .len (.cons (.var 0) .nil)) (.cst (.int 4))) (.or (.cmp .gt (.var 1) (.cst (.int 1))) (.not (.call 28 (.cons (.idx (.var 0) (.cst (.int 1))) (.cons (.cst (.int 3)) (.cons (.cst (.int 200)) .nil)))))))) (.cons .nope .nil) .nil) (.cons (.ite (.or (.not (.call 33 (.cons (.idx (.var 0) (.cst (.int 2))) .nil))) (.not (.isi (.idx (.var 0) (.cst (.int 3))) [.tuple]))) (.cons .nope .nil) .nil) (.cons (.ret (.blt .all (.cons (.comp [none, some 1] (.n 0) (.seq (.idx (.var 0) (.cst (.int 3)))) (.cst (.bl true)) (.call 34 (.cons (.var 0) (.cons (.bin .add (.var 1) (.cst (.int 1))) .nil)))) .nil))) .nil)))))⟩
def zei : Fn := ⟨1, 1, true, (.cons (.ret (.and (.isi (.var 0) [.tuple]) (.blt .all (.cons (.comp [none] (.n 0) (.seq (.var 0)) (.cst (.bl true)) (.call 34 (.cons (.var 0) (.cons (.cst (.int 0)) .nil)))) .nil)))) .nil)⟩
def zp6 : Fn := ⟨4, 4, true, (.cons (.ret (.bin .add (.bin .add (.bin .add (.idx (.var 0) (.cst (.int 0))) (.bin .mul (.idx (.var 0) (.cst (.int 1))) (.var 1))) (.bin .mul (.idx (.var 0) (.cst (.int 2))) (.var 2))) (.bin .mul (.idx (.var 0) (.cst (.int 3))) (.var 3)))) .nil)⟩
def ze7 : Fn := ⟨4, 6, true, (.cons (.asg (.n 4) (.newl (.cons (.idx (.var 0) (.cst (.int 0))) .nil))) (.cons (.for (.n 5) (.seq (.slc (.var 0) (.cst (.int 1)) (.cst .non))) (.cons (.ite (.isi (.var 5) [.tuple]) (.cons (.expr (.mth .append (.var 4) (.cons (.tup (.cons (.idx (.var 5) (.cst (.int 0))) (.cons (.call 36 (.cons (.idx (.var 5) (.cst (.int 1))) (.cons (.var 1) (.cons (.var 2) (.cons (.var 3) .nil))))) .nil))) .nil))) .nil) (.cons (.expr (.mth .append (.var 4) (.cons (.var 5) .nil))) .nil)) .nil)) (.cons (.ret (.blt .tuple (.cons (.var 4) .nil))) .nil)))⟩
def zbl : Fn := ⟨4, 5, false, (.cons (.asg (.n 4) (.mth .get (.var 0) (.cons (.idx (.var 2) (.cst (.int 2))) (.cons (.cst (.int 0)) .nil)))) (.cons (.ite (.cmp .eq (.idx (.var 2) (.cst (.int 0))) (.cst (.str (Str.ofString "move")))) (.cons (.dput (.var 0) (.idx (.var 2) (.cst (.int 1))) (.var 4)) .nil) .nil) (.cons (.ite (.cmp .eq (.idx (.var 2) (.cst (.int 0))) (.cst (.str (Str.ofString "bare")))) (.cons (.dput (.var 0) (.idx (.var 2) (.cst (.int 1))) (.bin .sub (.bin .sub (.var 3) (.cst (.int 1))) (.var 4))) .nil) .nil) (.cons (.ite (.cmp .eq (.idx (.var 2) (.cst (.int 0))) (.cst (.str (Str.ofString "twice")))) (.cons (.dput (.var 0) (.idx (.var 2) (.cst (.int 1))) (.bin .mod (.bin .add (.bin .mul (.cst (.int 2)) (.var 4)) (.var 1)) (.var 3))) (.cons (.ret (.bin .fdiv (.bin .add (.bin .mul (.cst (.int 2)) (.var 4)) (.var 1)) (.var 3))) .nil)) .nil) (.cons (.ite (.cmp .eq (.idx (.var 2) (.cst (.int 0))) (.cst (.str (Str.ofString "half")))) (.cons (.dput (.var 0) (.idx (.var 2) (.cst (.int 1))) (.bin .add (.bin .fdiv (.var 4) (.cst (.int 2))) (.bin .mul (.var 1) (.bin .fdiv (.var 3) (.cst (.int 2)))))) (.cons (.ret (.bin .mod (.var 4) (.cst (.int 2)))) .nil)) .nil) (.cons (.ret (.var 1)) .nil))))))⟩
def zbh : Fn := ⟨4, 7, false, (.cons (.ite (.cmp .eq (.idx (.var 2) (.cst (.int 0))) (.cst (.str (Str.ofString "mark")))) (.cons (.ret (.idx (.var 2) (.cst (.int 1)))) .nil) .nil) (.cons (.ite (.cmp .eq (.idx (.var 2) (.cst (.int 0))) (.cst (.str (Str.ofString "ask")))) (.cons (.ret (.blt .int (.cons (.cmp .ne (.mth .get (.var 0) (.cons (.idx (.var 2) (.cst (.int 1))) (.cons (.cst (.int 0)) .nil))) (.cst (.int 0))) .nil))) .nil) .nil) (.cons (.ite (.cmp .eq (.idx (.var 2) (.cst (.int 0))) (.cst (.str (Str.ofString "set")))) (.cons (.dput (.var 0) (.idx (.var 2) (.cst (.int 1))) (.idx (.var 2) (.cst (.int 2)))) (.cons (.ret (.var 1)) .nil)) .nil) (.cons (.ite (.cmp .eq (.blt .len (.cons (.var 2) .nil)) (.cst (.int 3))) (.cons (.ret (.call 38 (.cons (.var 0) (.cons (.var 1) (.cons (.var 2) (.cons (.var 3) .nil)))))) .nil) .nil) (.cons (.ite (.cmp .eq (.idx (.var 2) (.cst (.int 0))) (.cst (.str (Str.ofString "times")))) (.cons (.asg (.n 4) (.bin .mul (.mth .get (.var 0) (.cons (.idx (.var 2) (.cst (.int 3))) (.cons (.cst (.int 0)) .nil))) (.mth .get (.var 0) (.cons (.idx (.var 2) (.cst (.int 4))) (.cons (.cst (.int 0)) .nil))))) (.cons (.dput (.var 0) (.idx (.var 2) (.cst (.int 1))) (.bin .mod (.var 4) (.var 3))) (.cons (.dput (.var 0) (.idx (.var 2) (.cst (.int 2))) (.bin .fdiv (.var 4) (.var 3))) (.cons (.ret (.var 1)) .nil)))) .nil) (.cons (.asg (.n 5) (.mth .get (.var 0) (.cons (.idx (.var 2) (.cst (.int 2))) (.cons (.cst (.int 0)) .nil)))) (.cons (.asg (.n 6) (.mth .get (.var 0) (.cons (.idx (.var 2) (.cst (.int 3))) (.cons (.cst (.int 0)) .nil)))) (.cons (.ite (.cmp .eq (.idx (.var 2) (.cst (.int 0))) (.cst (.str (Str.ofString "sum")))) (.cons (.dput (.var 0) (.idx (.var 2) (.cst (.int 1))) (.bin .mod (.bin .add (.bin .add (.var 5) (.var 6)) (.var 1)) (.var 3))) (.cons (.ret (.bin .fdiv (.bin .add (.bin .add (.var 5) (.var 6)) (.var 1)) (.var 3))) .nil)) .nil) (.cons (.ite (.cmp .eq (.idx (.var 2) (.cst (.int 0))) (.cst (.str (Str.ofString "less")))) (.cons (.dput (.var 0) (.idx (.var 2) (.cst (.int 1))) (.bin .mod (.bin .sub (.bin .sub (.var 5) (.var 6)) (.var 1)) (.var 3))) (.cons (.ret (.blt .int (.cons (.cmp .lt (.bin .sub (.bin .sub (.var 5) (.var 6)) (.var 1)) (.cst (.int 0))) .nil))) .nil)) .nil) (.cons (.ite (.cmp .eq (.idx (.var 2) (.cst (.int 0))) (.cst (.str (Str.ofString "both")))) (.cons (.dput (.var 0) (.idx (.var 2) (.cst (.int 1))) (.bin .band (.var 5) (.var 6))) .nil) .nil) (.cons (.ite (.cmp .eq (.idx (.var 2) (.cst (.int 0))) (.cst (.str (Str.ofString "any")))) (.cons (.dput (.var 0) (.idx (.var 2) (.cst (.int 1))) (.bin .bor (.var 5) (.var 6))) .nil) .nil) (.cons (.ite (.cmp .eq (.idx (.var 2) (.cst (.int 0))) (.cst (.str (Str.ofString "odd")))) (.cons (.dput (.var 0) (.idx (.var 2) (.cst (.int 1))) (.bin .bxor (.var 5) (.var 6))) .nil) .nil) (.cons (.ret (.var 1)) .nil)))))))))))))⟩
def zjF : Fn := ⟨3, 3, true, (.cons (.ret (.bin .add (.bin .add (.idx (.var 0) (.cst (.int 0))) (.bin .mul (.idx (.var 0) (.cst (.int 1))) (.var 2))) (.bin .mul (.bin .mul (.idx (.var 0) (.cst (.int 2))) (.var 1)) (.var 2)))) .nil)⟩
def zgs : Fn := ⟨4, 11, true, (.cons (.asg (.n 4) (.newl .nil)) (.cons (.asg (.n 5) (.cst (.int 0))) (.cons (.for (.n 6) (.seq (.var 0)) (.cons (.ite (.cmp .eq (.idx (.var 6) (.cst (.int 0))) (.cst (.str (Str.ofString "row")))) (.cons (.expr (.mth .append (.var 4) (.cons (.call 37 (.cons (.idx (.var 6) (.cst (.int 1))) (.cons (.cst (.int 0)) (.cons (.cst (.int 0)) (.cons (.var 2) .nil))))) .nil))) .nil) (.cons (.for (.n 7) (.range1 (.blt .min (.cons (.call 40 (.cons (.idx (.var 6) (.cst (.int 1))) (.cons (.var 1) (.cons (.var 2) .nil)))) (.cons (.cst (.int 4001)) .nil)))) (.cons (.aug 5 .add (.cst (.int 1))) (.cons (.for (.n 8) (.seq (.idx (.var 6) (.cst (.int 3)))) (.cons (.ite (.cmp .eq (.idx (.var 8) (.cst (.int 0))) (.cst (.str (Str.ofString "row")))) (.cons (.expr (.mth .append (.var 4) (.cons (.call 37 (.cons (.idx (.var 8) (.cst (.int 1))) (.cons (.var 7) (.cons (.cst (.int 0)) (.cons (.var 2) .nil))))) .nil))) .nil) (.cons .nope .nil)) .nil)) (.cons (.ite (.or (.cmp .gt (.var 5) (.cst (.int 4000))) (.cmp .gt (.blt .len (.cons (.var 4) .nil)) (.var 3))) (.cons .nope .nil) .nil) .nil)))) .nil)) .nil)) (.cons (.ite (.cmp .gt (.blt .len (.cons (.var 4) .nil)) (.var 3)) (.cons .nope .nil) .nil) (.cons (.ret (.frz (.var 4))) .nil)))))⟩
def zer : Fn := ⟨1, 3, true, (.cons (.for (.n 1) (.seq (.var 0)) (.cons (.for (.n 2) (.seq (.slc (.var 1) (.cst (.int 1)) (.cst .non))) (.cons (.ite (.and (.isi (.var 2) [.tuple]) (.not (.chain .le .le (.cst (.int 0)) (.idx (.var 2) (.cst (.int 1))) (.cst (.int 99))))) (.cons .nope .nil) .nil) .nil)) (.cons (.ite (.and (.cmp .eq (.idx (.var 1) (.cst (.int 0))) (.cst (.str (Str.ofString "times")))) (.or (.cmp .eq (.idx (.var 1) (.cst (.int 1))) (.idx (.var 1) (.cst (.int 2)))) (.cmp .isin (.idx (.idx (.var 1) (.cst (.int 2))) (.cst (.int 0))) (.cst (.str (Str.ofString "ab")))))) (.cons .nope .nil) .nil) (.cons (.ite (.and (.cmp .notin (.idx (.var 1) (.cst (.int 0))) (.tup (.cons (.cst (.str (Str.ofString "mark"))) (.cons (.cst (.str (Str.ofString "ask"))) .nil)))) (.cmp .isin (.idx (.idx (.var 1) (.cst (.int 1))) (.cst (.int 0))) (.cst (.str (Str.ofString "ab"))))) (.cons .nope .nil) .nil) .nil)))) (.cons (.ret (.cst (.bl true))) .nil))⟩
def zfK : Fn := ⟨4, 7, false, (.cons (.asg (.n 4) (.dict0 true)) (.cons (.for (.t [5, 6]) (.enum (.call 26 (.cons (.var 2) (.cons (.var 0) (.cons (.var 1) .nil))))) (.cons (.dput (.var 4) (.tup (.cons (.cst (.str (Str.ofString "a"))) (.cons (.var 5) .nil))) (.var 6)) .nil)) (.cons (.for (.t [5, 6]) (.enum (.call 26 (.cons (.var 3) (.cons (.var 0) (.cons (.var 1) .nil))))) (.cons (.dput (.var 4) (.tup (.cons (.cst (.str (Str.ofString "b"))) (.cons (.var 5) .nil))) (.var 6)) .nil)) (.cons (.ret (.var 4)) .nil))))⟩
def f_qrun : Fn := ⟨5, 10, false, (.cons (.ite (.not (.call 35 (.cons (.var 0) .nil))) (.cons .nope .nil) .nil) (.cons (.asg (.n 5) (.call 41 (.cons (.var 0) (.cons (.var 1) (.cons (.var 2) (.cons (.cst (.int 4000)) .nil)))))) (.cons (.ite (.or (.cmp .is (.var 5) (.cst .non)) (.not (.call 42 (.cons (.var 5) .nil)))) (.cons .nope .nil) .nil) (.cons (.asg (.n 6) (.call 43 (.cons (.var 1) (.cons (.var 2) (.cons (.var 3) (.cons (.var 4) .nil)))))) (.cons (.asg (.n 7) (.call 25 (.cons (.var 1) .nil))) (.cons (.asg (.n 8) (.cst (.int 0))) (.cons (.for (.n 9) (.seq (.var 5)) (.cons (.asg (.n 8) (.call 39 (.cons (.var 6) (.cons (.var 8) (.cons (.var 9) (.cons (.var 7) .nil)))))) .nil)) (.cons (.ret (.var 6)) .nil))))))))⟩
def zhl : Fn := ⟨4, 7, false, (.cons (.asg (.n 4) (.call 25 (.cons (.var 3) .nil))) (.cons (.asg (.n 5) (.cst (.int 0))) (.cons (.for (.n 6) (.rangeD (.bin .sub (.var 2) (.cst (.int 1))) (.neg (.cst (.int 1)))) (.cons (.asg (.n 5) (.bin .add (.bin .mul (.var 5) (.var 4)) (.mth .get (.var 0) (.cons (.tup (.cons (.var 1) (.cons (.var 6) .nil))) (.cons (.cst (.int 0)) .nil))))) .nil)) (.cons (.ret (.var 5)) .nil))))⟩
def zfD : Fn := ⟨1, 1, false, (.cons (.ret (.blt .tuple (.cons (.comp [none, some 0] (.n 0) (.range1 (.cst (.int 4))) (.cst (.bl true)) (.mth .get (.var 1) (.cons (.tup (.cons (.cst (.str (Str.ofString "m"))) (.cons (.var 0) .nil))) (.cons (.cst (.int 0)) .nil)))) .nil))) .nil)⟩
def zce : Fn := ⟨5, 6, true, (.cons (.asg (.n 5) (.call 44 (.cons (.call 16 (.cons (.var 0) .nil)) (.cons (.var 1) (.cons (.var 2) (.cons (.var 3) (.cons (.var 4) .nil))))))) (.cons (.ite (.cmp .is (.var 5) (.cst .non)) (.cons .nope .nil) .nil) (.cons (.ret (.tup (.cons (.call 45 (.cons (.var 5) (.cons (.cst (.str (Str.ofString "c"))) (.cons (.var 2) (.cons (.var 1) .nil))))) (.cons (.idx (.call 46 (.cons (.var 5) .nil)) (.cst (.int 0))) .nil)))) .nil)))⟩
def zna : Fn := ⟨1, 14, true, (.cons (.asg (.n 1) (.call 19 (.cons (.var 0) .nil))) (.cons (.asg (.t [2, 3]) (.call 23 (.cons (.var 1) (.cons (.cst (.int 4)) .nil)))) (.cons (.asg (.n 4) (.call 24 (.cons (.var 1) (.cons (.var 2) (.cons (.var 3) .nil))))) (.cons (.asg (.n 5) (.call 24 (.cons (.var 1) (.cons (.var 2) (.cons (.var 3) .nil))))) (.cons (.asg (.t [6, 7]) (.call 47 (.cons (.tup (.cons (.cst (.str (Str.ofString "sum"))) .nil)) (.cons (.var 2) (.cons (.var 3) (.cons (.var 4) (.cons (.var 5) .nil))))))) (.cons (.ite (.or (.cmp .lt (.var 6) (.cst (.int 0))) (.cmp .ne (.call 47 (.cons (.tup (.cons (.cst (.str (Str.ofString "difference"))) .nil)) (.cons (.var 2) (.cons (.var 3) (.cons (.var 6) (.cons (.var 5) .nil)))))) (.tup (.cons (.var 4) (.cons (.var 7) .nil))))) (.cons .nope .nil) .nil) (.cons (.asg (.t [8, 9]) (.call 47 (.cons (.tup (.cons (.cst (.str (Str.ofString "difference"))) .nil)) (.cons (.var 2) (.cons (.var 3) (.cons (.var 4) (.cons (.var 5) .nil))))))) (.cons (.ite (.or (.cmp .lt (.var 8) (.cst (.int 0))) (.cmp .ne (.call 47 (.cons (.tup (.cons (.cst (.str (Str.ofString "sum"))) .nil)) (.cons (.var 2) (.cons (.var 3) (.cons (.var 8) (.cons (.var 5) .nil)))))) (.tup (.cons (.var 4) (.cons (.var 9) .nil))))) (.cons .nope .nil) .nil) (.cons (.asg (.t [10, 11]) (.call 47 (.cons (.tup (.cons (.cst (.str (Str.ofString "turned"))) .nil)) (.cons (.var 2) (.cons (.var 3) (.cons (.var 4) (.cons (.cst (.int 0)) .nil))))))) (.cons (.asg (.t [12, 13]) (.call 47 (.cons (.tup (.cons (.cst (.str (Str.ofString "bare"))) .nil)) (.cons (.var 2) (.cons (.var 3) (.cons (.var 4) (.cons (.cst (.int 0)) .nil))))))) (.cons (.ite (.or (.cmp .lt (.var 10) (.cst (.int 0))) (.or (.cmp .lt (.var 12) (.cst (.int 0))) (.or (.cmp .ne (.var 13) (.cst (.int 0))) (.cmp .ne (.call 47 (.cons (.tup (.cons (.cst (.str (Str.ofString "turned"))) .nil)) (.cons (.var 2) (.cons (.var 3) (.cons (.var 10) (.cons (.cst (.int 0)) .nil)))))) (.tup (.cons (.var 4) (.cons (.var 11) .nil))))))) (.cons .nope .nil) .nil) (.cons (.ite (.cmp .ne (.call 47 (.cons (.tup (.cons (.cst (.str (Str.ofString "bare"))) .nil)) (.cons (.var 2) (.cons (.var 3) (.cons (.var 12) (.cons (.cst (.int 0)) .nil)))))) (.tup (.cons (.var 4) (.cons (.cst (.int 0)) .nil)))) (.cons .nope .nil) .nil) (.cons (.ret (.cmp .eq (.idx (.call 47 (.cons (.tup (.cons (.cst (.str (Str.ofString "sum"))) .nil)) (.cons (.var 2) (.cons (.var 3) (.cons (.var 12) (.cons (.cst (.int 1)) .nil)))))) (.cst (.int 0))) (.var 10))) .nil)))))))))))))⟩
def T : Nat -> Option Fn
  | 0 => some znZ
  | 1 => some zf3
  | 2 => some znT
  | 3 => some zjB
  | 4 => some zjJ
  | 5 => some znX
  | 6 => some zgy
  | 7 => some zde
  | 8 => some zex
  | 9 => some zdL
  | 10 => some zes
  | 11 => some zcc
  | 12 => some zcW
  | 13 => some zdK
  | 14 => some zhY
  | 15 => some zfN
  | 16 => some zh2
  | 17 => some zhU
  | 18 => some zc4
  | 19 => some zfL
  | 20 => some f_qmixed
  | 21 => some zeY
  | 22 => some f_qtake
  | 23 => some zfB
  | 24 => some f_qworth
  | 25 => some zf7
  | 26 => some zfH
  | 27 => some zjs
  | 28 => some zh6
  | 29 => some zhW
  | 30 => some zec
  | 31 => some zdO
  | 32 => some zjy
  | 33 => some zdJ
  | 34 => some zms
  | 35 => some zei
  | 36 => some zp6
  | 37 => some ze7
  | 38 => some zbl
  | 39 => some zbh
  | 40 => some zjF
  | 41 => some zgs
  | 42 => some zer
  | 43 => some zfK
  | 44 => some f_qrun
  | 45 => some zhl
  | 46 => some zfD
  | 47 => some zce
  | 48 => some zna
  | _ => none
abbrev zby : Nat := 16
abbrev zha : Nat := 19
abbrev zjm : Nat := 20
abbrev zoN : Nat := 21
abbrev zjf : Nat := 22
abbrev zhe : Nat := 23
abbrev zfz : Nat := 24
abbrev zlv : Nat := 25
abbrev zjI : Nat := 26
abbrev za6 : Nat := 35
abbrev zi6 : Nat := 38
abbrev zk4 : Nat := 39
abbrev zaB : Nat := 41
abbrev zac : Nat := 42
abbrev zjz : Nat := 43
abbrev zn4 : Nat := 44
abbrev zkZ : Nat := 45
abbrev zjC : Nat := 46
abbrev za2 : Nat := 47
abbrev zkO : Nat := 48
end IC
namespace WK
open PySem L2 IC
def top (i : Nat) : Stmt := PySem.Challenge.pw_widewords_k19_whole_there_and_back.main.body.getD i (.Pass ⟨0, 0, 0, 0⟩)
abbrev zcU : Stmt := top 9
theorem sc_word : FnScope ["letter", "c", "i", "j", "m"] ["letter", "c", "i", "j", "m"] (defScope zcU) := ⟨rfl, rfl, rfl, by decide +kernel, rfl, by decide +kernel, by decide +kernel⟩
abbrev zaq : Stmt := top 10
theorem sc_last_word : FnScope ["letter"] ["letter"] (defScope zaq) := ⟨rfl, rfl, rfl, by decide +kernel, rfl, by decide +kernel, by decide +kernel⟩
abbrev zcV : Stmt := top 11
theorem sc_rows : FnScope ["told"] ["told"] (defScope zcV) := ⟨rfl, rfl, rfl, by decide +kernel, rfl, by decide +kernel, by decide +kernel⟩
abbrev zbR : Stmt := top 12
theorem sc_rounds : FnScope ["count", "sentence", "inner"] ["count", "sentence", "inner"] (defScope zbR) := ⟨rfl, rfl, rfl, by decide +kernel, rfl, by decide +kernel, by decide +kernel⟩
abbrev zbS : Stmt := top 13
theorem sc_lowest : FnScope ["letter", "c", "i", "j", "m"] ["letter", "c", "i", "j", "m"] (defScope zbS) := ⟨rfl, rfl, rfl, by decide +kernel, rfl, by decide +kernel, by decide +kernel⟩
abbrev zdg : Stmt := top 14
theorem sc_term : FnScope ["f", "things", "i", "p", "q", "r"] ["f", "things", "i", "p", "q", "r"] (defScope zdg) := ⟨rfl, rfl, rfl, by decide +kernel, rfl, by decide +kernel, by decide +kernel⟩
abbrev zaj : Stmt := top 17
theorem sc_kept_mark : FnScope ["to"] ["to"] (defScope zaj) := ⟨rfl, rfl, rfl, by decide +kernel, rfl, by decide +kernel, by decide +kernel⟩
abbrev zT : Stmt := top 18
theorem sc_kept_contrary : FnScope ["to"] ["to"] (defScope zT) := ⟨rfl, rfl, rfl, by decide +kernel, rfl, by decide +kernel, by decide +kernel⟩
abbrev zO : Stmt := top 21
theorem sc_asked_words : FnScope ["letter", "m", "count", "gathered"] ["letter", "m", "count"] (defScope zO) := ⟨rfl, rfl, rfl, by decide +kernel, rfl, by decide +kernel, by decide +kernel⟩
abbrev zE : Stmt := top 22
theorem sc_answer_marks : FnScope ["c", "m", "sign"] ["c", "m"] (defScope zE) := ⟨rfl, rfl, rfl, by decide +kernel, rfl, by decide +kernel, by decide +kernel⟩
abbrev zI : Stmt := top 79
theorem sc_sum_telling : FnScope ["added", "sentence", "lone"] [] (defScope zI) := ⟨rfl, rfl, rfl, by decide +kernel, rfl, by decide +kernel, by decide +kernel⟩
abbrev zm : Stmt := top 80
theorem sc_difference_telling : FnScope ["taken", "sentence", "lone"] [] (defScope zm) := ⟨rfl, rfl, rfl, by decide +kernel, rfl, by decide +kernel, by decide +kernel⟩
abbrev zr : Stmt := top 81
theorem sc_turned_telling : FnScope ["taken", "sentence", "lone"] [] (defScope zr) := ⟨rfl, rfl, rfl, by decide +kernel, rfl, by decide +kernel, by decide +kernel⟩
abbrev zD : Stmt := top 84
theorem sc_bare_telling : FnScope ["sentence", "bared"] [] (defScope zD) := ⟨rfl, rfl, rfl, by decide +kernel, rfl, by decide +kernel, by decide +kernel⟩
abbrev zal : Stmt := top 85
theorem sc_carried : FnScope ["row", "sentence"] ["row", "sentence"] (defScope zal) := ⟨rfl, rfl, rfl, by decide +kernel, rfl, by decide +kernel, by decide +kernel⟩
abbrev z0 : Stmt := top 86
theorem sc_lone_sign : FnScope ["lone", "one", "other"] ["lone", "one", "other"] (defScope z0) := ⟨rfl, rfl, rfl, by decide +kernel, rfl, by decide +kernel, by decide +kernel⟩
abbrev zay : Stmt := top 93
theorem sc_telling : FnScope ["deed"] ["deed"] (defScope zay) := ⟨rfl, rfl, rfl, by decide +kernel, rfl, by decide +kernel, by decide +kernel⟩
abbrev zad : Stmt := top 94
theorem sc_is_deed : FnScope ["thing"] ["thing"] (defScope zad) := ⟨rfl, rfl, rfl, by decide +kernel, rfl, by decide +kernel, by decide +kernel⟩
abbrev zH : Stmt := top 96
theorem sc_named_telling : FnScope ["name"] ["name"] (defScope zH) := ⟨rfl, rfl, rfl, by decide +kernel, rfl, by decide +kernel, by decide +kernel⟩
abbrev zbQ : Stmt := top 98
theorem sc_qfresh : FnScope ["_law_script"] ["_law_script"] (defScope zbQ) := ⟨rfl, rfl, rfl, by decide +kernel, rfl, by decide +kernel, by decide +kernel⟩
abbrev zbt : Stmt := top 99
theorem sc_qmixed : FnScope ["_law_seed", "_law_primes", "_law_number", "_law_k", "_law_prime", "_law_far", "_law_square", "_law_power"] ["_law_seed"] (defScope zbt) := ⟨rfl, rfl, rfl, by decide +kernel, rfl, by decide +kernel, by decide +kernel⟩
abbrev zb4 : Stmt := top 100
theorem sc_qfill : FnScope ["_law_state", "_law_cells", "_law_at_here", "_law_seed"] ["_law_state"] (defScope zb4) := ⟨rfl, rfl, rfl, by decide +kernel, rfl, by decide +kernel, by decide +kernel⟩
abbrev zck : Stmt := top 101
theorem sc_qtake : FnScope ["_law_state", "_law_many", "_law_turns", "_law_digit"] ["_law_state", "_law_many"] (defScope zck) := ⟨rfl, rfl, rfl, by decide +kernel, rfl, by decide +kernel, by decide +kernel⟩
abbrev zbs : Stmt := top 102
theorem sc_qsizes : FnScope ["_law_state", "_law_most"] ["_law_state", "_law_most"] (defScope zbs) := ⟨rfl, rfl, rfl, by decide +kernel, rfl, by decide +kernel, by decide +kernel⟩
abbrev zbf : Stmt := top 103
theorem sc_qworth : FnScope ["_law_state", "_law_w", "_law_n", "_law_way", "_law_top", "_law_k", "_law_edges", "_law_any_one", "_law_low", "_law_wide", "_law_worth_here", "_law_some", "_law_words_here"] ["_law_state", "_law_w", "_law_n"] (defScope zbf) := ⟨rfl, rfl, rfl, by decide +kernel, rfl, by decide +kernel, by decide +kernel⟩
abbrev zaY : Stmt := top 104
theorem sc_qtwo_to : FnScope ["_law_many", "_law_found", "_law_k"] ["_law_many"] (defScope zaY) := ⟨rfl, rfl, rfl, by decide +kernel, rfl, by decide +kernel, by decide +kernel⟩
abbrev za4 : Stmt := top 105
theorem sc_qwords : FnScope ["_law_worth_here", "_law_w", "_law_n", "_law_wide", "_law_words_here", "_law_k"] ["_law_worth_here", "_law_w", "_law_n"] (defScope za4) := ⟨rfl, rfl, rfl, by decide +kernel, rfl, by decide +kernel, by decide +kernel⟩
abbrev za3 : Stmt := top 106
theorem sc_qwhole : FnScope ["_law_thing_here"] ["_law_thing_here"] (defScope za3) := ⟨rfl, rfl, rfl, by decide +kernel, rfl, by decide +kernel, by decide +kernel⟩
abbrev zan : Stmt := top 107
theorem sc_qwholes : FnScope ["_law_thing_here", "_law_many", "_law_most"] ["_law_thing_here", "_law_many", "_law_most"] (defScope zan) := ⟨rfl, rfl, rfl, by decide +kernel, rfl, by decide +kernel, by decide +kernel⟩
abbrev zaG : Stmt := top 108
theorem sc_qletter : FnScope ["_law_thing_here"] ["_law_thing_here"] (defScope zaG) := ⟨rfl, rfl, rfl, by decide +kernel, rfl, by decide +kernel, by decide +kernel⟩
abbrev zK : Stmt := top 109
theorem sc_qindex_cell : FnScope ["_law_thing_here"] ["_law_thing_here"] (defScope zK) := ⟨rfl, rfl, rfl, by decide +kernel, rfl, by decide +kernel, by decide +kernel⟩
abbrev zz : Stmt := top 110
theorem sc_qtelling_row : FnScope ["_law_row", "_law_lengths"] ["_law_row"] (defScope zz) := ⟨rfl, rfl, rfl, by decide +kernel, rfl, by decide +kernel, by decide +kernel⟩
abbrev zaL : Stmt := top 111
theorem sc_qthing : FnScope ["_law_thing_here"] ["_law_thing_here"] (defScope zaL) := ⟨rfl, rfl, rfl, by decide +kernel, rfl, by decide +kernel, by decide +kernel⟩
abbrev zA : Stmt := top 112
theorem sc_qis_sentence : FnScope ["_law_told", "_law_term"] ["_law_told"] (defScope zA) := ⟨rfl, rfl, rfl, by decide +kernel, rfl, by decide +kernel, by decide +kernel⟩
abbrev zaR : Stmt := top 113
theorem sc_qpart : FnScope ["_law_part_here", "_law_deep"] ["_law_part_here", "_law_deep"] (defScope zaR) := ⟨rfl, rfl, rfl, by decide +kernel, rfl, by decide +kernel, by decide +kernel⟩
abbrev zP : Stmt := top 114
theorem sc_qis_telling : FnScope ["_law_told"] ["_law_told"] (defScope zP) := ⟨rfl, rfl, rfl, by decide +kernel, rfl, by decide +kernel, by decide +kernel⟩
abbrev zgG : Stmt := top 115
theorem sc_qat : FnScope ["_law_index", "_law_i", "_law_j", "_law_n"] ["_law_index", "_law_i", "_law_j", "_law_n"] (defScope zgG) := ⟨rfl, rfl, rfl, by decide +kernel, rfl, by decide +kernel, by decide +kernel⟩
abbrev z3 : Stmt := top 116
theorem sc_qplain_row : FnScope ["_law_row", "_law_i", "_law_j", "_law_n", "_law_told", "_law_part_here"] ["_law_row", "_law_i", "_law_j", "_law_n"] (defScope z3) := ⟨rfl, rfl, rfl, by decide +kernel, rfl, by decide +kernel, by decide +kernel⟩
abbrev zaA : Stmt := top 117
theorem sc_qone_done : FnScope ["_law_cells", "_law_mark", "_law_row", "_law_wide", "_law_x"] ["_law_cells", "_law_mark", "_law_row", "_law_wide"] (defScope zaA) := ⟨rfl, rfl, rfl, by decide +kernel, rfl, by decide +kernel, by decide +kernel⟩
abbrev zbM : Stmt := top 118
theorem sc_qdone : FnScope ["_law_cells", "_law_mark", "_law_row", "_law_wide", "_law_both", "_law_x", "_law_y"] ["_law_cells", "_law_mark", "_law_row", "_law_wide"] (defScope zbM) := ⟨rfl, rfl, rfl, by decide +kernel, rfl, by decide +kernel, by decide +kernel⟩
abbrev zbT : Stmt := top 119
theorem sc_qcount : FnScope ["_law_count_here", "_law_w", "_law_n"] ["_law_count_here", "_law_w", "_law_n"] (defScope zbT) := ⟨rfl, rfl, rfl, by decide +kernel, rfl, by decide +kernel, by decide +kernel⟩
abbrev zZ : Stmt := top 120
theorem sc_qunrolled : FnScope ["_law_told", "_law_w", "_law_n", "_law_most", "_law_rows", "_law_rounds", "_law_part_here", "_law_i", "_law_inner", "_law_many", "_law_j"] ["_law_told", "_law_w", "_law_n", "_law_most"] (defScope zZ) := ⟨rfl, rfl, rfl, by decide +kernel, rfl, by decide +kernel, by decide +kernel⟩
abbrev zX : Stmt := top 121
theorem sc_qrows_right : FnScope ["_law_rows", "_law_row", "_law_part_here"] ["_law_rows"] (defScope zX) := ⟨rfl, rfl, rfl, by decide +kernel, rfl, by decide +kernel, by decide +kernel⟩
abbrev zbd : Stmt := top 122
theorem sc_qbegun : FnScope ["_law_w", "_law_n", "_law_x", "_law_y", "_law_cells", "_law_k", "_law_word"] ["_law_w", "_law_n", "_law_x", "_law_y"] (defScope zbd) := ⟨rfl, rfl, rfl, by decide +kernel, rfl, by decide +kernel, by decide +kernel⟩
abbrev zcb : Stmt := top 123
theorem sc_qrun : FnScope ["_law_told", "_law_w", "_law_n", "_law_x", "_law_y", "_law_rows", "_law_cells", "_law_wide", "_law_mark", "_law_row"] ["_law_told", "_law_w", "_law_n", "_law_x", "_law_y"] (defScope zcb) := ⟨rfl, rfl, rfl, by decide +kernel, rfl, by decide +kernel, by decide +kernel⟩
abbrev zb7 : Stmt := top 124
theorem sc_qread : FnScope ["_law_cells", "_law_letter_here", "_law_many", "_law_w", "_law_wide", "_law_worth_here", "_law_k"] ["_law_cells", "_law_letter_here", "_law_many", "_law_w"] (defScope zb7) := ⟨rfl, rfl, rfl, by decide +kernel, rfl, by decide +kernel, by decide +kernel⟩
abbrev zbe : Stmt := top 125
theorem sc_qmarks : FnScope ["_law_cells"] ["_law_cells"] (defScope zbe) := ⟨rfl, rfl, rfl, by decide +kernel, rfl, by decide +kernel, by decide +kernel⟩
abbrev zM : Stmt := top 126
theorem sc_qwords_told : FnScope ["_law_deed", "_law_w", "_law_n", "_law_x", "_law_y", "_law_cells"] ["_law_deed", "_law_w", "_law_n", "_law_x", "_law_y"] (defScope zM) := ⟨rfl, rfl, rfl, by decide +kernel, rfl, by decide +kernel, by decide +kernel⟩
abbrev zdk : Stmt := top 127
theorem sc_law : FnScope ["_law_script", "_law_state", "_law_w", "_law_n", "_law_x", "_law_y", "_law_more", "_law_carry", "_law_less", "_law_borrow", "_law_over", "_law_mark", "_law_bared", "_law_nothing"] ["_law_script"] (defScope zdk) := ⟨rfl, rfl, rfl, by decide +kernel, rfl, by decide +kernel, by decide +kernel⟩
theorem zgd : VisAll ["letter", "c", "i", "j", "m"] (defScope zcU) := by unfold VisAll; decide +kernel
theorem zhK : VisAll ["letter"] (defScope zaq) := by unfold VisAll; decide +kernel
abbrev GI (s : Stmt) (x : String) : Prop := (defScope s).names.lookup (Str.ofString x) = some .globalImplicit
theorem zeU : GI zaq "word" := by decide +kernel
theorem zom : VisAll ["told"] (defScope zcV) := by unfold VisAll; decide +kernel
theorem zhm : GI zcV "tuple" := by decide +kernel
theorem zfZ : VisAll ["count", "sentence", "inner"] (defScope zbR) := by unfold VisAll; decide +kernel
theorem zdq : VisAll ["letter", "c", "i", "j", "m"] (defScope zbS) := by unfold VisAll; decide +kernel
theorem zeP : VisAll ["f", "things", "i", "p", "q", "r"] (defScope zdg) := by unfold VisAll; decide +kernel
theorem zh4 : VisAll ["to"] (defScope zaj) := by unfold VisAll; decide +kernel
theorem zcS : GI zaj "NIL" := by decide +kernel
theorem zb5 : VisAll ["to"] (defScope zT) := by unfold VisAll; decide +kernel
theorem zdy : GI zT "NIL" := by decide +kernel
theorem zbb : VisAll ["letter", "m", "count", "gathered"] (defScope zO) := by unfold VisAll; decide +kernel
theorem zaM : GI zO "SEEN" := by decide +kernel
theorem zda : GI zO "rounds" := by decide +kernel
theorem zbj : GI zO "rows" := by decide +kernel
theorem zd5 : GI zO "word" := by decide +kernel
theorem zaI : VisAll ["c", "m", "sign"] (defScope zE) := by unfold VisAll; decide +kernel
theorem zb0 : GI zE "MARKS" := by decide +kernel
theorem zdb : GI zE "SPARE" := by decide +kernel
theorem zcj : GI zE "asked_words" := by decide +kernel
theorem zb3 : GI zE "kept_contrary" := by decide +kernel
theorem zcE : GI zE "kept_mark" := by decide +kernel
theorem zdI : GI zE "rows" := by decide +kernel
theorem zdE : GI zE "word" := by decide +kernel
theorem zaQ : VisAll ["added", "sentence", "lone"] (defScope zI) := by unfold VisAll; decide +kernel
theorem zcm : GI zI "answer_marks" := by decide +kernel
theorem zc0 : GI zI "carried" := by decide +kernel
theorem zaH : GI zI "last_word" := by decide +kernel
theorem zcM : GI zI "lone_sign" := by decide +kernel
theorem zaX : GI zI "lowest" := by decide +kernel
theorem zaJ : GI zI "term" := by decide +kernel
theorem zbm : GI zI "word" := by decide +kernel
theorem z4 : VisAll ["taken", "sentence", "lone"] (defScope zm) := by unfold VisAll; decide +kernel
theorem zbr : GI zm "answer_marks" := by decide +kernel
theorem zb2 : GI zm "carried" := by decide +kernel
theorem zab : GI zm "last_word" := by decide +kernel
theorem zbO : GI zm "lone_sign" := by decide +kernel
theorem zag : GI zm "lowest" := by decide +kernel
theorem z9 : GI zm "term" := by decide +kernel
theorem zau : GI zm "word" := by decide +kernel
theorem zai : VisAll ["taken", "sentence", "lone"] (defScope zr) := by unfold VisAll; decide +kernel
theorem zbY : GI zr "NIL" := by decide +kernel
theorem zbW : GI zr "answer_marks" := by decide +kernel
theorem zcC : GI zr "carried" := by decide +kernel
theorem za0 : GI zr "last_word" := by decide +kernel
theorem zcn : GI zr "lone_sign" := by decide +kernel
theorem zbq : GI zr "lowest" := by decide +kernel
theorem zaS : GI zr "term" := by decide +kernel
theorem zbH : GI zr "word" := by decide +kernel
theorem zbv : VisAll ["sentence", "bared"] (defScope zD) := by unfold VisAll; decide +kernel
theorem zcA : GI zD "EACH_WORD" := by decide +kernel
theorem zcd : GI zD "answer_marks" := by decide +kernel
theorem zbG : GI zD "lowest" := by decide +kernel
theorem zcZ : GI zD "rounds" := by decide +kernel
theorem zdz : GI zD "rows" := by decide +kernel
theorem zaE : GI zD "term" := by decide +kernel
theorem zca : GI zD "word" := by decide +kernel
theorem zg6 : VisAll ["row", "sentence"] (defScope zal) := by unfold VisAll; decide +kernel
theorem zdC : GI zal "EACH_WORD" := by decide +kernel
theorem zfs : GI zal "MARKS" := by decide +kernel
theorem zdA : GI zal "kept_mark" := by decide +kernel
theorem ze0 : GI zal "rounds" := by decide +kernel
theorem zco : GI zal "rows" := by decide +kernel
theorem zcw : VisAll ["lone", "one", "other"] (defScope z0) := by unfold VisAll; decide +kernel
theorem zeu : GI z0 "MARKS" := by decide +kernel
theorem zcH : GI z0 "SEEN" := by decide +kernel
theorem zaz : GI z0 "SPARE" := by decide +kernel
theorem zc3 : GI z0 "kept_mark" := by decide +kernel
theorem zeS : GI z0 "rows" := by decide +kernel
theorem zcL : VisAll ["deed"] (defScope zay) := by unfold VisAll; decide +kernel
theorem zd3 : GI zay "PAIRWISE" := by decide +kernel
theorem zeZ : GI zay "SHIFTS" := by decide +kernel
theorem zel : GI zay "is_deed" := by decide +kernel
theorem zcI : GI zay "named_telling" := by decide +kernel
theorem zbN : VisAll ["thing"] (defScope zad) := by unfold VisAll; decide +kernel
theorem zf2 : GI zad "LONE" := by decide +kernel
theorem ze1 : GI zad "PAIRED" := by decide +kernel
theorem zeK : GI zad "SHIFTS" := by decide +kernel
theorem zc9 : GI zad "isinstance" := by decide +kernel
theorem zdQ : GI zad "len" := by decide +kernel
theorem zft : GI zad "tuple" := by decide +kernel
theorem zaP : VisAll ["name"] (defScope zH) := by unfold VisAll; decide +kernel
theorem zb6 : GI zH "bare_telling" := by decide +kernel
theorem zbk : GI zH "difference_telling" := by decide +kernel
theorem zcf : GI zH "sum_telling" := by decide +kernel
theorem zbK : GI zH "turned_telling" := by decide +kernel
theorem zlw : VisAll ["_law_script"] (defScope zbQ) := by unfold VisAll; decide +kernel
theorem zJ : VisAll ["_law_seed", "_law_primes", "_law_number", "_law_k", "_law_prime", "_law_far", "_law_square", "_law_power"] (defScope zbt) := by unfold VisAll; decide +kernel
theorem zdZ : GI zbt "enumerate" := by decide +kernel
theorem zS : VisAll ["_law_state", "_law_cells", "_law_at_here", "_law_seed"] (defScope zb4) := by unfold VisAll; decide +kernel
theorem zgu : GI zb4 "_law_mixed" := by decide +kernel
theorem zcv : GI zb4 "len" := by decide +kernel
theorem z5 : VisAll ["_law_state", "_law_many", "_law_turns", "_law_digit"] (defScope zck) := by unfold VisAll; decide +kernel
theorem zgD : GI zck "_law_fill" := by decide +kernel
theorem zgc : VisAll ["_law_state", "_law_most"] (defScope zbs) := by unfold VisAll; decide +kernel
theorem zc7 : GI zbs "_law_take" := by decide +kernel
theorem zg : VisAll ["_law_state", "_law_w", "_law_n", "_law_way", "_law_top", "_law_k", "_law_edges", "_law_any_one", "_law_low", "_law_wide", "_law_worth_here", "_law_some", "_law_words_here"] (defScope zbf) := by unfold VisAll; decide +kernel
theorem zaV : GI zbf "_law_take" := by decide +kernel
theorem zaW : GI zbf "range" := by decide +kernel
theorem zcg : VisAll ["_law_many", "_law_found", "_law_k"] (defScope zaY) := by unfold VisAll; decide +kernel
theorem zfx : GI zaY "range" := by decide +kernel
theorem zaO : VisAll ["_law_worth_here", "_law_w", "_law_n", "_law_wide", "_law_words_here", "_law_k"] (defScope za4) := by unfold VisAll; decide +kernel
theorem zeO : GI za4 "_law_two_to" := by decide +kernel
theorem zf8 : GI za4 "range" := by decide +kernel
theorem zf6 : GI za4 "tuple" := by decide +kernel
theorem zhN : VisAll ["_law_thing_here"] (defScope za3) := by unfold VisAll; decide +kernel
theorem zgH : GI za3 "bool" := by decide +kernel
theorem zhx : GI za3 "int" := by decide +kernel
theorem zb9 : GI za3 "isinstance" := by decide +kernel
theorem zdv : VisAll ["_law_thing_here", "_law_many", "_law_most"] (defScope zan) := by unfold VisAll; decide +kernel
theorem zgE : GI zan "all" := by decide +kernel
theorem zdj : GI zan "isinstance" := by decide +kernel
theorem zgB : GI zan "len" := by decide +kernel
theorem zfr : GI zan "tuple" := by decide +kernel
theorem zeM : VisAll ["_law_thing_here"] (defScope zaG) := by unfold VisAll; decide +kernel
theorem zdh : GI zaG "isinstance" := by decide +kernel
theorem zgI : GI zaG "len" := by decide +kernel
theorem zgC : GI zaG "str" := by decide +kernel
theorem zbV : VisAll ["_law_thing_here"] (defScope zK) := by unfold VisAll; decide +kernel
theorem zcY : GI zK "_law_letter" := by decide +kernel
theorem zc1 : GI zK "_law_wholes" := by decide +kernel
theorem zcF : GI zK "isinstance" := by decide +kernel
theorem zeh : GI zK "len" := by decide +kernel
theorem zdH : GI zK "tuple" := by decide +kernel
theorem zn : VisAll ["_law_row", "_law_lengths"] (defScope zz) := by unfold VisAll; decide +kernel
theorem za1 : GI zz "_law_index_cell" := by decide +kernel
theorem zbI : GI zz "_law_whole" := by decide +kernel
theorem zdS : GI zz "all" := by decide +kernel
theorem za9 : GI zz "isinstance" := by decide +kernel
theorem zam : GI zz "len" := by decide +kernel
theorem zd8 : GI zz "str" := by decide +kernel
theorem zdo : GI zz "tuple" := by decide +kernel
theorem zcr : VisAll ["_law_thing_here"] (defScope zaL) := by unfold VisAll; decide +kernel
theorem zeI : GI zaL "_law_letter" := by decide +kernel
theorem zcK : GI zaL "_law_wholes" := by decide +kernel
theorem zdB : GI zaL "isinstance" := by decide +kernel
theorem zhq : GI zaL "len" := by decide +kernel
theorem zgp : GI zaL "tuple" := by decide +kernel
theorem zL : VisAll ["_law_told", "_law_term"] (defScope zA) := by unfold VisAll; decide +kernel
theorem zcX : GI zA "_law_whole" := by decide +kernel
theorem zcQ : GI zA "_law_wholes" := by decide +kernel
theorem zd1 : GI zA "abs" := by decide +kernel
theorem zd4 : GI zA "all" := by decide +kernel
theorem zav : GI zA "isinstance" := by decide +kernel
theorem zbn : GI zA "len" := by decide +kernel
theorem zaZ : GI zA "tuple" := by decide +kernel
theorem zbc : VisAll ["_law_part_here", "_law_deep"] (defScope zaR) := by unfold VisAll; decide +kernel
theorem zdl : GI zaR "_law_is_sentence" := by decide +kernel
theorem zc6 : GI zaR "_law_telling_row" := by decide +kernel
theorem zfn : GI zaR "_law_wholes" := by decide +kernel
theorem zic : GI zaR "all" := by decide +kernel
theorem zch : GI zaR "isinstance" := by decide +kernel
theorem zdd : GI zaR "len" := by decide +kernel
theorem zdM : GI zaR "tuple" := by decide +kernel
theorem zdR : VisAll ["_law_told"] (defScope zP) := by unfold VisAll; decide +kernel
theorem zeb : GI zP "all" := by decide +kernel
theorem zcB : GI zP "isinstance" := by decide +kernel
theorem zdG : GI zP "tuple" := by decide +kernel
theorem zgq : VisAll ["_law_index", "_law_i", "_law_j", "_law_n"] (defScope zgG) := by unfold VisAll; decide +kernel
theorem zN : VisAll ["_law_row", "_law_i", "_law_j", "_law_n", "_law_told", "_law_part_here"] (defScope z3) := by unfold VisAll; decide +kernel
theorem zeT : GI z3 "_law_at" := by decide +kernel
theorem zcG : GI z3 "isinstance" := by decide +kernel
theorem zcq : GI z3 "tuple" := by decide +kernel
theorem zq : VisAll ["_law_cells", "_law_mark", "_law_row", "_law_wide", "_law_x"] (defScope zaA) := by unfold VisAll; decide +kernel
theorem zh : VisAll ["_law_cells", "_law_mark", "_law_row", "_law_wide", "_law_both", "_law_x", "_law_y"] (defScope zbM) := by unfold VisAll; decide +kernel
theorem zeA : GI zbM "_law_one_done" := by decide +kernel
theorem ze4 : GI zbM "int" := by decide +kernel
theorem zh5 : GI zbM "len" := by decide +kernel
theorem zcJ : VisAll ["_law_count_here", "_law_w", "_law_n"] (defScope zbT) := by unfold VisAll; decide +kernel
theorem zu : VisAll ["_law_told", "_law_w", "_law_n", "_law_most", "_law_rows", "_law_rounds", "_law_part_here", "_law_i", "_law_inner", "_law_many", "_law_j"] (defScope zZ) := by unfold VisAll; decide +kernel
theorem zd9 : GI zZ "_law_count" := by decide +kernel
theorem zbC : GI zZ "_law_plain_row" := by decide +kernel
theorem zcR : GI zZ "len" := by decide +kernel
theorem zfo : GI zZ "min" := by decide +kernel
theorem zek : GI zZ "range" := by decide +kernel
theorem zU : VisAll ["_law_rows", "_law_row", "_law_part_here"] (defScope zX) := by unfold VisAll; decide +kernel
theorem zcD : GI zX "isinstance" := by decide +kernel
theorem zdF : GI zX "tuple" := by decide +kernel
theorem zaa : VisAll ["_law_w", "_law_n", "_law_x", "_law_y", "_law_cells", "_law_k", "_law_word"] (defScope zbd) := by unfold VisAll; decide +kernel
theorem zcT : GI zbd "_law_words" := by decide +kernel
theorem zcl : GI zbd "enumerate" := by decide +kernel
theorem zak : VisAll ["_law_told", "_law_w", "_law_n", "_law_x", "_law_y", "_law_rows", "_law_cells", "_law_wide", "_law_mark", "_law_row"] (defScope zcb) := by unfold VisAll; decide +kernel
theorem zgz : GI zcb "_law_begun" := by decide +kernel
theorem zhr : GI zcb "_law_done" := by decide +kernel
theorem zdU : GI zcb "_law_is_telling" := by decide +kernel
theorem zea : GI zcb "_law_rows_right" := by decide +kernel
theorem zge : GI zcb "_law_two_to" := by decide +kernel
theorem zeJ : GI zcb "_law_unrolled" := by decide +kernel
theorem zbg : VisAll ["_law_cells", "_law_letter_here", "_law_many", "_law_w", "_law_wide", "_law_worth_here", "_law_k"] (defScope zb7) := by unfold VisAll; decide +kernel
theorem zfu : GI zb7 "_law_two_to" := by decide +kernel
theorem zgA : GI zb7 "range" := by decide +kernel
theorem zf1 : GI zbe "range" := by decide +kernel
theorem zf4 : GI zbe "tuple" := by decide +kernel
theorem zW : VisAll ["_law_deed", "_law_w", "_law_n", "_law_x", "_law_y", "_law_cells"] (defScope zM) := by unfold VisAll; decide +kernel
theorem zdp : GI zM "_law_marks" := by decide +kernel
theorem zdD : GI zM "_law_read" := by decide +kernel
theorem zdT : GI zM "_law_run" := by decide +kernel
theorem zc2 : GI zM "telling" := by decide +kernel
theorem zF : VisAll ["_law_script", "_law_state", "_law_w", "_law_n", "_law_x", "_law_y", "_law_more", "_law_carry", "_law_less", "_law_borrow", "_law_over", "_law_mark", "_law_bared", "_law_nothing"] (defScope zdk) := by unfold VisAll; decide +kernel
theorem zhD : GI zdk "_law_fresh" := by decide +kernel
theorem zho : GI zdk "_law_sizes" := by decide +kernel
theorem zQ : GI zdk "_law_words_told" := by decide +kernel
theorem zeG : GI zdk "_law_worth" := by decide +kernel
def pss : Nat -> Option (List Str)
  | 0 => some ["letter", "c", "i", "j", "m"]
  | 1 => some ["letter"]
  | 2 => some ["told"]
  | 3 => some ["count", "sentence", "inner"]
  | 4 => some ["letter", "c", "i", "j", "m"]
  | 5 => some ["f", "things", "i", "p", "q", "r"]
  | 6 => some ["to"]
  | 7 => some ["to"]
  | 8 => some ["letter", "m", "count"]
  | 9 => some ["c", "m"]
  | 10 => some []
  | 11 => some []
  | 12 => some []
  | 13 => some []
  | 14 => some ["row", "sentence"]
  | 15 => some ["lone", "one", "other"]
  | 16 => some ["deed"]
  | 17 => some ["thing"]
  | 18 => some ["name"]
  | 19 => some ["_law_script"]
  | 20 => some ["_law_seed"]
  | 21 => some ["_law_state"]
  | 22 => some ["_law_state", "_law_many"]
  | 23 => some ["_law_state", "_law_most"]
  | 24 => some ["_law_state", "_law_w", "_law_n"]
  | 25 => some ["_law_many"]
  | 26 => some ["_law_worth_here", "_law_w", "_law_n"]
  | 27 => some ["_law_thing_here"]
  | 28 => some ["_law_thing_here", "_law_many", "_law_most"]
  | 29 => some ["_law_thing_here"]
  | 30 => some ["_law_thing_here"]
  | 31 => some ["_law_row"]
  | 32 => some ["_law_thing_here"]
  | 33 => some ["_law_told"]
  | 34 => some ["_law_part_here", "_law_deep"]
  | 35 => some ["_law_told"]
  | 36 => some ["_law_index", "_law_i", "_law_j", "_law_n"]
  | 37 => some ["_law_row", "_law_i", "_law_j", "_law_n"]
  | 38 => some ["_law_cells", "_law_mark", "_law_row", "_law_wide"]
  | 39 => some ["_law_cells", "_law_mark", "_law_row", "_law_wide"]
  | 40 => some ["_law_count_here", "_law_w", "_law_n"]
  | 41 => some ["_law_told", "_law_w", "_law_n", "_law_most"]
  | 42 => some ["_law_rows"]
  | 43 => some ["_law_w", "_law_n", "_law_x", "_law_y"]
  | 44 => some ["_law_told", "_law_w", "_law_n", "_law_x", "_law_y"]
  | 45 => some ["_law_cells", "_law_letter_here", "_law_many", "_law_w"]
  | 46 => some ["_law_cells"]
  | 47 => some ["_law_deed", "_law_w", "_law_n", "_law_x", "_law_y"]
  | 48 => some ["_law_script"]
  | _ => none
structure Facts (K : PySem.W.Frag) (mg : Str -> Option Value) (cl : Nat -> Addr) (fa : Nat -> Addr) (fdd : Nat -> FuncData) : Prop where
  F0 : FnD K mg "word" zcU ["letter", "c", "i", "j", "m"] [0, 0, 0, 0] (fa 0) (fdd 0)
  F1 : Fn K mg "last_word" zaq ["letter"] (fa 1) (fdd 1)
  F2 : Fn K mg "rows" zcV ["told"] (fa 2) (fdd 2)
  F3 : Fn K mg "rounds" zbR ["count", "sentence", "inner"] (fa 3) (fdd 3)
  F4 : FnD K mg "lowest" zbS ["letter", "c", "i", "j", "m"] [0, 0, 0, 0] (fa 4) (fdd 4)
  F5 : FnD K mg "term" zdg ["f", "things", "i", "p", "q", "r"] [0, 0, 0, 0] (fa 5) (fdd 5)
  F6 : Fn K mg "kept_mark" zaj ["to"] (fa 6) (fdd 6)
  F7 : Fn K mg "kept_contrary" zT ["to"] (fa 7) (fdd 7)
  F8 : Fn K mg "asked_words" zO ["letter", "m", "count"] (fa 8) (fdd 8)
  F9 : Fn K mg "answer_marks" zE ["c", "m"] (fa 9) (fdd 9)
  F10 : Fn K mg "sum_telling" zI [] (fa 10) (fdd 10)
  F11 : Fn K mg "difference_telling" zm [] (fa 11) (fdd 11)
  F12 : Fn K mg "turned_telling" zr [] (fa 12) (fdd 12)
  F13 : Fn K mg "bare_telling" zD [] (fa 13) (fdd 13)
  F14 : Fn K mg "carried" zal ["row", "sentence"] (fa 14) (fdd 14)
  F15 : Fn K mg "lone_sign" z0 ["lone", "one", "other"] (fa 15) (fdd 15)
  F16 : Fn K mg "telling" zay ["deed"] (fa 16) (fdd 16)
  F17 : Fn K mg "is_deed" zad ["thing"] (fa 17) (fdd 17)
  F18 : Fn K mg "named_telling" zH ["name"] (fa 18) (fdd 18)
  F19 : Fn K mg "_law_fresh" zbQ ["_law_script"] (fa 19) (fdd 19)
  F20 : Fn K mg "_law_mixed" zbt ["_law_seed"] (fa 20) (fdd 20)
  F21 : Fn K mg "_law_fill" zb4 ["_law_state"] (fa 21) (fdd 21)
  F22 : Fn K mg "_law_take" zck ["_law_state", "_law_many"] (fa 22) (fdd 22)
  F23 : Fn K mg "_law_sizes" zbs ["_law_state", "_law_most"] (fa 23) (fdd 23)
  F24 : Fn K mg "_law_worth" zbf ["_law_state", "_law_w", "_law_n"] (fa 24) (fdd 24)
  F25 : Fn K mg "_law_two_to" zaY ["_law_many"] (fa 25) (fdd 25)
  F26 : Fn K mg "_law_words" za4 ["_law_worth_here", "_law_w", "_law_n"] (fa 26) (fdd 26)
  F27 : Fn K mg "_law_whole" za3 ["_law_thing_here"] (fa 27) (fdd 27)
  F28 : Fn K mg "_law_wholes" zan ["_law_thing_here", "_law_many", "_law_most"] (fa 28) (fdd 28)
  F29 : Fn K mg "_law_letter" zaG ["_law_thing_here"] (fa 29) (fdd 29)
  F30 : Fn K mg "_law_index_cell" zK ["_law_thing_here"] (fa 30) (fdd 30)
  F31 : Fn K mg "_law_telling_row" zz ["_law_row"] (fa 31) (fdd 31)
  F32 : Fn K mg "_law_thing" zaL ["_law_thing_here"] (fa 32) (fdd 32)
  F33 : Fn K mg "_law_is_sentence" zA ["_law_told"] (fa 33) (fdd 33)
  F34 : Fn K mg "_law_part" zaR ["_law_part_here", "_law_deep"] (fa 34) (fdd 34)
  F35 : Fn K mg "_law_is_telling" zP ["_law_told"] (fa 35) (fdd 35)
  F36 : Fn K mg "_law_at" zgG ["_law_index", "_law_i", "_law_j", "_law_n"] (fa 36) (fdd 36)
  F37 : Fn K mg "_law_plain_row" z3 ["_law_row", "_law_i", "_law_j", "_law_n"] (fa 37) (fdd 37)
  F38 : Fn K mg "_law_one_done" zaA ["_law_cells", "_law_mark", "_law_row", "_law_wide"] (fa 38) (fdd 38)
  F39 : Fn K mg "_law_done" zbM ["_law_cells", "_law_mark", "_law_row", "_law_wide"] (fa 39) (fdd 39)
  F40 : Fn K mg "_law_count" zbT ["_law_count_here", "_law_w", "_law_n"] (fa 40) (fdd 40)
  F41 : Fn K mg "_law_unrolled" zZ ["_law_told", "_law_w", "_law_n", "_law_most"] (fa 41) (fdd 41)
  F42 : Fn K mg "_law_rows_right" zX ["_law_rows"] (fa 42) (fdd 42)
  F43 : Fn K mg "_law_begun" zbd ["_law_w", "_law_n", "_law_x", "_law_y"] (fa 43) (fdd 43)
  F44 : Fn K mg "_law_run" zcb ["_law_told", "_law_w", "_law_n", "_law_x", "_law_y"] (fa 44) (fdd 44)
  F45 : Fn K mg "_law_read" zb7 ["_law_cells", "_law_letter_here", "_law_many", "_law_w"] (fa 45) (fdd 45)
  F46 : Fn K mg "_law_marks" zbe ["_law_cells"] (fa 46) (fdd 46)
  F47 : Fn K mg "_law_words_told" zM ["_law_deed", "_law_w", "_law_n", "_law_x", "_law_y"] (fa 47) (fdd 47)
  F48 : Fn K mg "law" zdk ["_law_script"] (fa 48) (fdd 48)
  z_abs : mg "abs" = none
  z_all : mg "all" = none
  z_bool : mg "bool" = none
  z_enumerate : mg "enumerate" = none
  z_int : mg "int" = none
  z_isinstance : mg "isinstance" = none
  z_len : mg "len" = none
  z_min : mg "min" = none
  z_range : mg "range" = none
  z_str : mg "str" = none
  z_tuple : mg "tuple" = none
  k_bool : KitT K .bool
  k_int : KitT K .int
  k_str : KitT K .str
  k_tuple : KitT K .tuple
  c_EACH_WORD : GC K mg cl "EACH_WORD" zd0
  c_LONE : GC K mg cl "LONE" znO
  c_MARKS : GC K mg cl "MARKS" zf5
  c_NIL : GC K mg cl "NIL" zkB
  c_PAIRED : GC K mg cl "PAIRED" zjq
  c_PAIRWISE : GC K mg cl "PAIRWISE" zgU
  c_SEEN : GC K mg cl "SEEN" zf0
  c_SHIFTS : GC K mg cl "SHIFTS" zhb
  c_SPARE : GC K mg cl "SPARE" zdY
def Fns (P : Program) (w : World) (K : PySem.W.Frag) (mg : Str -> Option Value) (base : Heap) (cl : Nat -> Addr) (fa : Nat -> Addr) (fdd : Nat -> FuncData) (k : Nat) : Prop := ∀ i ps, pss i = some ps -> FnOk P w K mg base (CX1 P w) k (fa i) (fdd i) ps (spI K cl (callT T k) i)
section
variable {P : Program} {w : World} {K : PySem.W.Frag} {mg : Str -> Option Value} {base : Heap} {cl : Nat -> Addr} {fa : Nat -> Addr} {fdd : Nat -> FuncData} {k : Nat}
theorem zjP {K : PySem.W.Frag} {mg : Str -> Option Value} {f : Addr} {fd : FuncData} (D : FnD K mg "word" zcU ["letter", "c", "i", "j", "m"] [0, 0, 0, 0] f fd) : ∃ g, KBinds K fd ["letter", "c", "i", "j", "m"] ["m"] g (gK 2 [some 0, some 0, none]) :=
  kbD (off := 1) D rfl rfl rfl (fun dT kV doc pm an cdv ct us ws its h1 h2 h3 => match us, ws, its, h1, h2, h3 with | [_, _], [_], [_, _, _, _], _, _, _ => ⟨_, rfl, rfl⟩) (by decide)
theorem zkJ {K : PySem.W.Frag} {mg : Str -> Option Value} {f : Addr} {fd : FuncData} (D : FnD K mg "word" zcU ["letter", "c", "i", "j", "m"] [0, 0, 0, 0] f fd) : ∃ g, KBinds K fd ["letter", "c", "i", "j", "m"] ["i", "m"] g (gK 1 [some 0, none, some 0, none]) :=
  kbD (off := 0) D rfl rfl rfl (fun dT kV doc pm an cdv ct us ws its h1 h2 h3 => match us, ws, its, h1, h2, h3 with | [_], [_, _], [_, _, _, _], _, _, _ => ⟨_, rfl, rfl⟩) (by decide)
theorem zbU {K : PySem.W.Frag} {mg : Str -> Option Value} {f : Addr} {fd : FuncData} (D : FnD K mg "word" zcU ["letter", "c", "i", "j", "m"] [0, 0, 0, 0] f fd) : ∃ g, KBinds K fd ["letter", "c", "i", "j", "m"] ["i"] g (gK 1 [some 0, none, some 0, some 0]) :=
  kbD (off := 0) D rfl rfl rfl (fun dT kV doc pm an cdv ct us ws its h1 h2 h3 => match us, ws, its, h1, h2, h3 with | [_], [_], [_, _, _, _], _, _, _ => ⟨_, rfl, rfl⟩) (by decide)
theorem zbP {K : PySem.W.Frag} {mg : Str -> Option Value} {f : Addr} {fd : FuncData} (D : FnD K mg "lowest" zbS ["letter", "c", "i", "j", "m"] [0, 0, 0, 0] f fd) : ∃ g, KBinds K fd ["letter", "c", "i", "j", "m"] ["i"] g (gK 1 [some 0, none, some 0, some 0]) :=
  kbD (off := 0) D rfl rfl rfl (fun dT kV doc pm an cdv ct us ws its h1 h2 h3 => match us, ws, its, h1, h2, h3 with | [_], [_], [_, _, _, _], _, _, _ => ⟨_, rfl, rfl⟩) (by decide)
theorem zci {K : PySem.W.Frag} {mg : Str -> Option Value} {f : Addr} {fd : FuncData} (D : FnD K mg "term" zdg ["f", "things", "i", "p", "q", "r"] [0, 0, 0, 0] f fd) : ∃ g, KBinds K fd ["f", "things", "i", "p", "q", "r"] [] g (gK 2 [some 0, some 0, some 0, some 0]) :=
  kbD (off := 0) D rfl rfl rfl (fun dT kV doc pm an cdv ct us ws its h1 h2 h3 => match us, ws, its, h1, h2, h3 with | [_, _], [], [_, _, _, _], _, _, _ => ⟨_, rfl, rfl⟩) (by decide)
theorem zfM {K : PySem.W.Frag} {mg : Str -> Option Value} {f : Addr} {fd : FuncData} (D : FnD K mg "term" zdg ["f", "things", "i", "p", "q", "r"] [0, 0, 0, 0] f fd) : ∃ g, KBinds K fd ["f", "things", "i", "p", "q", "r"] ["p"] g (gK 2 [some 0, none, some 0, some 0]) :=
  kbD (off := 0) D rfl rfl rfl (fun dT kV doc pm an cdv ct us ws its h1 h2 h3 => match us, ws, its, h1, h2, h3 with | [_, _], [_], [_, _, _, _], _, _, _ => ⟨_, rfl, rfl⟩) (by decide)
theorem zop (Z : Facts K mg cl fa fdd) (C : Fns P w K mg base cl fa fdd k) : FnOk P w K mg base (CX1 P w) (k + 1) (fa 0) (fdd 0) ["letter", "c", "i", "j", "m"] (spI K cl (callT T (k + 1)) 0) :=
  zl3 (fn := znZ) rfl Z.F0 sc_word rfl rfl fun cdv A outer s H E hr => have nd := sc_word.nd; have hu1 := zaf hr; (zb (zy (zw (za (svF zgd 0) (za (zw (za (svF zgd 1) (za (svF zgd 2) (za (svF zgd 3) (za (svF zgd 4) zd))))) zd)))) ze)
theorem zie (Z : Facts K mg cl fa fdd) (C : Fns P w K mg base cl fa fdd k) : FnOk P w K mg base (CX1 P w) (k + 1) (fa 1) (fdd 1) ["letter"] (spI K cl (callT T (k + 1)) 1) :=
  zas (fn := zf3) rfl Z.F1.F sc_last_word rfl rfl fun cdv A outer s H E hr => have nd := sc_last_word.nd; have hu1 := zaf hr; (zb (zy (zG (C 0 _ rfl) hr zeU Z.F0.m Z.F0.kp (zjP Z.F0) rfl (za (svF zhK 0) (za (zfj zc) zd)) (zt (zt (zbD zc z8))))) ze)
theorem zoF (Z : Facts K mg cl fa fdd) (C : Fns P w K mg base cl fa fdd k) : FnOk P w K mg base (CX1 P w) (k + 1) (fa 2) (fdd 2) ["told"] (spI K cl (callT T (k + 1)) 2) :=
  zas (fn := znT) rfl Z.F2.F sc_rows rfl rfl fun cdv A outer s H E hr => have nd := sc_rows.nd; have hu1 := zaf hr; (zb (zy (zeR zfE zhm Z.z_tuple zax (za (zd2 rfl (compOk (NC := ["row"]) (slots := [none]) ["told"] (defScope zcV) rfl rfl rfl (by decide +kernel) (by decide +kernel) (by decide +kernel) (by decide +kernel) rfl) (by decide) (zcN (svF zom 0)) (fun j => zdV rfl (zao (i := 0) (show (["row"] : List Str).Nodup by decide +kernel) rfl (by first | exact Or.inl rfl | exact Or.inr rfl))) (fun j => zcO) (fun j => zdW rfl (zw (za zl (za (sv 0) zd))))) zd))) ze)
theorem zmw (Z : Facts K mg cl fa fdd) (C : Fns P w K mg base cl fa fdd k) : FnOk P w K mg base (CX1 P w) (k + 1) (fa 3) (fdd 3) ["count", "sentence", "inner"] (spI K cl (callT T (k + 1)) 3) :=
  zas (fn := zjB) rfl Z.F3.F sc_rounds rfl rfl fun cdv A outer s H E hr => have nd := sc_rounds.nd; have hu1 := zaf hr; (zb (zy (zw (za (zw (za zl (za (svF zfZ 0) (za (svF zfZ 1) (za (svF zfZ 2) zd))))) zd))) ze)
theorem zlg (Z : Facts K mg cl fa fdd) (C : Fns P w K mg base cl fa fdd k) : FnOk P w K mg base (CX1 P w) (k + 1) (fa 4) (fdd 4) ["letter", "c", "i", "j", "m"] (spI K cl (callT T (k + 1)) 4) :=
  zl3 (fn := zjJ) rfl Z.F4 sc_lowest rfl rfl fun cdv A outer s H E hr => have nd := sc_lowest.nd; have hu1 := zaf hr; (zb (zy (zw (za zl (za (svF zdq 0) (za (zw (za zc (za zc (za zc (za zc zd))))) (za (zw (za (svF zdq 1) (za (svF zdq 2) (za (svF zdq 3) (za (svF zdq 4) zd))))) zd)))))) ze)
theorem zok (Z : Facts K mg cl fa fdd) (C : Fns P w K mg base cl fa fdd k) : FnOk P w K mg base (CX1 P w) (k + 1) (fa 5) (fdd 5) ["f", "things", "i", "p", "q", "r"] (spI K cl (callT T (k + 1)) 5) :=
  zl3 (fn := znX) rfl Z.F5 sc_term rfl rfl fun cdv A outer s H E hr => have nd := sc_term.nd; have hu1 := zaf hr; (zb (zy (zw (za (svF zeP 0) (za (zw (za zc (za (svF zeP 2) (za zc (za (svF zeP 3) (za (svF zeP 4) (za (svF zeP 5) zd))))))) (za (svF zeP 1) zd))))) ze)
theorem zia (Z : Facts K mg cl fa fdd) (C : Fns P w K mg base cl fa fdd k) : FnOk P w K mg base (CX1 P w) (k + 1) (fa 6) (fdd 6) ["to"] (spI K cl (callT T (k + 1)) 6) :=
  zas (fn := zgy) rfl Z.F6.F sc_kept_mark rfl rfl fun cdv A outer s H E hr => have nd := sc_kept_mark.nd; have hu1 := zaf hr; (zb (zy (zw (za zl (za (svF zh4 0) (za (zbE zcS Z.c_NIL) (za (zbE zcS Z.c_NIL) zd)))))) ze)
theorem zfq (Z : Facts K mg cl fa fdd) (C : Fns P w K mg base cl fa fdd k) : FnOk P w K mg base (CX1 P w) (k + 1) (fa 7) (fdd 7) ["to"] (spI K cl (callT T (k + 1)) 7) :=
  zas (fn := zde) rfl Z.F7.F sc_kept_contrary rfl rfl fun cdv A outer s H E hr => have nd := sc_kept_contrary.nd; have hu1 := zaf hr; (zb (zy (zdP (za (zw (za zl (za (svF zb5 0) (za zc zd)))) (za (zw (za zl (za (svF zb5 0) (za (svF zb5 0) (za (zbE zdy Z.c_NIL) zd))))) zd)))) ze)
theorem zgM (Z : Facts K mg cl fa fdd) (C : Fns P w K mg base cl fa fdd k) : FnOk P w K mg base (CX1 P w) (k + 1) (fa 8) (fdd 8) ["letter", "m", "count"] (spI K cl (callT T (k + 1)) 8) :=
  zas (fn := zex) rfl Z.F8.F sc_asked_words rfl rfl fun cdv A outer s H E hr => have nd := sc_asked_words.nd; have hu1 := zaf hr; (zb (zC (i := 3) nd rfl (lcF (i := 3) zbb rfl) (zw (za zl (za (zbE zaM Z.c_SEEN) (za (zbE zaM Z.c_SEEN) (za (zG (C 0 _ rfl) hr zd5 Z.F0.m Z.F0.kp (zkJ Z.F0) rfl (za (svF zbb 0) zd) (zt (zbD zc (zt (zbD (svF zbb 1) z8))))) zd)))))) (zb (zy (zk z6 (zk z6 (zf (C 2 _ rfl) hr zbj Z.F2.m Z.F2.F.kp Z.F2.b (za (zdP (za (zw (za zl (za (zbE zaM Z.c_SEEN) (za zc zd)))) zd)) zd)) (zf (C 3 _ rfl) hr zda Z.F3.m Z.F3.F.kp Z.F3.b (za (svF zbb 2) (za (zw zd) (za (zf (C 2 _ rfl) hr zbj Z.F2.m Z.F2.F.kp Z.F2.b (za (zdP (za (svF zbb 3) zd)) zd)) zd))))) (zf (C 2 _ rfl) hr zbj Z.F2.m Z.F2.F.kp Z.F2.b (za (zdP (za (zw (za zl (za (zbE zaM Z.c_SEEN) zd))) zd)) zd)))) ze))
theorem zfQ (Z : Facts K mg cl fa fdd) (C : Fns P w K mg base cl fa fdd k) : FnOk P w K mg base (CX1 P w) (k + 1) (fa 9) (fdd 9) ["c", "m"] (spI K cl (callT T (k + 1)) 9) :=
  zas (fn := zdL) rfl Z.F9.F sc_answer_marks rfl rfl fun cdv A outer s H E hr => have nd := sc_answer_marks.nd; have hu1 := zaf hr; (zb (zC (i := 2) nd rfl (lcF (i := 2) zaI rfl) (zdP (za (zw (za zl (za (zbE zdb Z.c_SPARE) (za (zG (C 0 _ rfl) hr zdE Z.F0.m Z.F0.kp (zjP Z.F0) rfl (za zl (za (zk zcs (svF zaI 0) zc) zd)) (zt (zt (zbD (svF zaI 1) z8)))) zd)))) (za (zf (C 6 _ rfl) hr zcE Z.F6.m Z.F6.F.kp Z.F6.b (za (zj (zbE zb0 Z.c_MARKS) zc) zd)) zd)))) (zb (zy (zk z6 (zf (C 8 _ rfl) hr zcj Z.F8.m Z.F8.F.kp Z.F8.b (za zl (za zc (za (zw (za (svF zaI 0) (za (svF zaI 1) (za zc zd)))) zd)))) (zf (C 2 _ rfl) hr zdI Z.F2.m Z.F2.F.kp Z.F2.b (za (zk z6 (zf (C 7 _ rfl) hr zb3 Z.F7.m Z.F7.F.kp Z.F7.b (za (zj (zbE zb0 Z.c_MARKS) zc) zd)) (svF zaI 2)) zd)))) ze))
theorem zgJ (Z : Facts K mg cl fa fdd) (C : Fns P w K mg base cl fa fdd k) : FnOk P w K mg base (CX1 P w) (k + 1) (fa 10) (fdd 10) [] (spI K cl (callT T (k + 1)) 10) :=
  zas (fn := zes) rfl Z.F10.F sc_sum_telling rfl rfl fun cdv A outer s H E hr => have nd := sc_sum_telling.nd; have hu1 := zaf hr; (zb (zC (i := 0) nd rfl (lcF (i := 0) zaQ rfl) (zw (za zl (za (zG (C 0 _ rfl) hr zbm Z.F0.m Z.F0.kp (zbU Z.F0) rfl (za zl zd) (zt (zbD zc (zt (zt z8))))) (za (zG (C 0 _ rfl) hr zbm Z.F0.m Z.F0.kp (zbU Z.F0) rfl (za zl zd) (zt (zbD zc (zt (zt z8))))) (za (zG (C 0 _ rfl) hr zbm Z.F0.m Z.F0.kp (zbU Z.F0) rfl (za zl zd) (zt (zbD zc (zt (zt z8))))) zd)))))) (zb (zC (i := 1) nd rfl (lcF (i := 1) zaQ rfl) (zw (za (zG (C 5 _ rfl) hr zaJ Z.F5.m Z.F5.kp (zci Z.F5) rfl (za zc (za (zw (za (zG (C 4 _ rfl) hr zaX Z.F4.m Z.F4.kp (zbP Z.F4) rfl (za zl zd) (zt (zbD zc (zt (zt z8))))) zd)) zd)) (zt (zt (zt (zt z8))))) (za (zG (C 5 _ rfl) hr zaJ Z.F5.m Z.F5.kp (zci Z.F5) rfl (za zc (za (zw (za (zG (C 4 _ rfl) hr zaX Z.F4.m Z.F4.kp (zbP Z.F4) rfl (za zl zd) (zt (zbD zc (zt (zt z8))))) zd)) zd)) (zt (zt (zt (zt z8))))) (za (zG (C 5 _ rfl) hr zaJ Z.F5.m Z.F5.kp (zci Z.F5) rfl (za (zfj zc) (za (zw (za (zG (C 4 _ rfl) hr zaX Z.F4.m Z.F4.kp (zbP Z.F4) rfl (za zl zd) (zt (zbD zc (zt (zt z8))))) zd)) zd)) (zt (zt (zt (zt z8))))) (za (zG (C 5 _ rfl) hr zaJ Z.F5.m Z.F5.kp (zfM Z.F5) rfl (za (zfj zc) (za (zw (za (zw (za zl zd)) zd)) zd)) (zt (zbD zc (zt (zt z8))))) zd)))))) (zb (zC (i := 2) nd rfl (lcF (i := 2) zaQ rfl) (zf (C 15 _ rfl) hr zcM Z.F15.m Z.F15.F.kp Z.F15.b (za (zf (C 1 _ rfl) hr zaH Z.F1.m Z.F1.F.kp Z.F1.b (za zl zd)) (za (zf (C 1 _ rfl) hr zaH Z.F1.m Z.F1.F.kp Z.F1.b (za zl zd)) (za (zf (C 1 _ rfl) hr zaH Z.F1.m Z.F1.F.kp Z.F1.b (za zl zd)) zd))))) (zb (zy (zk z6 (zk z6 (zf (C 14 _ rfl) hr zc0 Z.F14.m Z.F14.F.kp Z.F14.b (za (svF zaQ 0) (za (svF zaQ 1) zd))) (svF zaQ 2)) (zf (C 9 _ rfl) hr zcm Z.F9.m Z.F9.F.kp Z.F9.b (za zc (za zc zd))))) ze))))
theorem zds (Z : Facts K mg cl fa fdd) (C : Fns P w K mg base cl fa fdd k) : FnOk P w K mg base (CX1 P w) (k + 1) (fa 11) (fdd 11) [] (spI K cl (callT T (k + 1)) 11) :=
  zas (fn := zcc) rfl Z.F11.F sc_difference_telling rfl rfl fun cdv A outer s H E hr => have nd := sc_difference_telling.nd; have hu1 := zaf hr; (zb (zC (i := 0) nd rfl (lcF (i := 0) z4 rfl) (zw (za zl (za (zG (C 0 _ rfl) hr zau Z.F0.m Z.F0.kp (zbU Z.F0) rfl (za zl zd) (zt (zbD zc (zt (zt z8))))) (za (zG (C 0 _ rfl) hr zau Z.F0.m Z.F0.kp (zbU Z.F0) rfl (za zl zd) (zt (zbD zc (zt (zt z8))))) (za (zG (C 0 _ rfl) hr zau Z.F0.m Z.F0.kp (zbU Z.F0) rfl (za zl zd) (zt (zbD zc (zt (zt z8))))) zd)))))) (zb (zC (i := 1) nd rfl (lcF (i := 1) z4 rfl) (zw (za (zG (C 5 _ rfl) hr z9 Z.F5.m Z.F5.kp (zci Z.F5) rfl (za zc (za (zw (za (zG (C 4 _ rfl) hr zag Z.F4.m Z.F4.kp (zbP Z.F4) rfl (za zl zd) (zt (zbD zc (zt (zt z8))))) zd)) zd)) (zt (zt (zt (zt z8))))) (za (zG (C 5 _ rfl) hr z9 Z.F5.m Z.F5.kp (zci Z.F5) rfl (za (zfj zc) (za (zw (za (zG (C 4 _ rfl) hr zag Z.F4.m Z.F4.kp (zbP Z.F4) rfl (za zl zd) (zt (zbD zc (zt (zt z8))))) zd)) zd)) (zt (zt (zt (zt z8))))) (za (zG (C 5 _ rfl) hr z9 Z.F5.m Z.F5.kp (zci Z.F5) rfl (za (zfj zc) (za (zw (za (zG (C 4 _ rfl) hr zag Z.F4.m Z.F4.kp (zbP Z.F4) rfl (za zl zd) (zt (zbD zc (zt (zt z8))))) zd)) zd)) (zt (zt (zt (zt z8))))) (za (zG (C 5 _ rfl) hr z9 Z.F5.m Z.F5.kp (zfM Z.F5) rfl (za zc (za (zw (za (zw (za zl zd)) zd)) zd)) (zt (zbD zc (zt (zt z8))))) zd)))))) (zb (zC (i := 2) nd rfl (lcF (i := 2) z4 rfl) (zf (C 15 _ rfl) hr zbO Z.F15.m Z.F15.F.kp Z.F15.b (za (zf (C 1 _ rfl) hr zab Z.F1.m Z.F1.F.kp Z.F1.b (za zl zd)) (za (zf (C 1 _ rfl) hr zab Z.F1.m Z.F1.F.kp Z.F1.b (za zl zd)) (za (zf (C 1 _ rfl) hr zab Z.F1.m Z.F1.F.kp Z.F1.b (za zl zd)) zd))))) (zb (zy (zk z6 (zk z6 (zf (C 14 _ rfl) hr zb2 Z.F14.m Z.F14.F.kp Z.F14.b (za (svF z4 0) (za (svF z4 1) zd))) (svF z4 2)) (zf (C 9 _ rfl) hr zbr Z.F9.m Z.F9.F.kp Z.F9.b (za zc (za zc zd))))) ze))))
theorem zeW (Z : Facts K mg cl fa fdd) (C : Fns P w K mg base cl fa fdd k) : FnOk P w K mg base (CX1 P w) (k + 1) (fa 12) (fdd 12) [] (spI K cl (callT T (k + 1)) 12) :=
  zas (fn := zcW) rfl Z.F12.F sc_turned_telling rfl rfl fun cdv A outer s H E hr => have nd := sc_turned_telling.nd; have hu1 := zaf hr; (zb (zC (i := 0) nd rfl (lcF (i := 0) zai rfl) (zw (za zl (za (zG (C 0 _ rfl) hr zbH Z.F0.m Z.F0.kp (zbU Z.F0) rfl (za zl zd) (zt (zbD zc (zt (zt z8))))) (za (zbE zbY Z.c_NIL) (za (zG (C 0 _ rfl) hr zbH Z.F0.m Z.F0.kp (zbU Z.F0) rfl (za zl zd) (zt (zbD zc (zt (zt z8))))) zd)))))) (zb (zC (i := 1) nd rfl (lcF (i := 1) zai rfl) (zw (za (zG (C 5 _ rfl) hr zaS Z.F5.m Z.F5.kp (zci Z.F5) rfl (za zc (za (zw (za (zG (C 4 _ rfl) hr zbq Z.F4.m Z.F4.kp (zbP Z.F4) rfl (za zl zd) (zt (zbD zc (zt (zt z8))))) zd)) zd)) (zt (zt (zt (zt z8))))) (za (zG (C 5 _ rfl) hr zaS Z.F5.m Z.F5.kp (zci Z.F5) rfl (za zc (za (zw (za (zG (C 4 _ rfl) hr zbq Z.F4.m Z.F4.kp (zbP Z.F4) rfl (za zl zd) (zt (zbD zc (zt (zt z8))))) zd)) zd)) (zt (zt (zt (zt z8))))) (za (zG (C 5 _ rfl) hr zaS Z.F5.m Z.F5.kp (zfM Z.F5) rfl (za (zfj zc) (za (zw (za (zw (za zl zd)) zd)) zd)) (zt (zbD zc (zt (zt z8))))) zd))))) (zb (zC (i := 2) nd rfl (lcF (i := 2) zai rfl) (zf (C 15 _ rfl) hr zcn Z.F15.m Z.F15.F.kp Z.F15.b (za (zbE zbY Z.c_NIL) (za (zf (C 1 _ rfl) hr za0 Z.F1.m Z.F1.F.kp Z.F1.b (za zl zd)) (za (zf (C 1 _ rfl) hr za0 Z.F1.m Z.F1.F.kp Z.F1.b (za zl zd)) zd))))) (zb (zy (zk z6 (zk z6 (zf (C 14 _ rfl) hr zcC Z.F14.m Z.F14.F.kp Z.F14.b (za (svF zai 0) (za (svF zai 1) zd))) (svF zai 2)) (zf (C 9 _ rfl) hr zbW Z.F9.m Z.F9.F.kp Z.F9.b (za zc (za zc zd))))) ze))))
theorem zgt (Z : Facts K mg cl fa fdd) (C : Fns P w K mg base cl fa fdd k) : FnOk P w K mg base (CX1 P w) (k + 1) (fa 13) (fdd 13) [] (spI K cl (callT T (k + 1)) 13) :=
  zas (fn := zdK) rfl Z.F13.F sc_bare_telling rfl rfl fun cdv A outer s H E hr => have nd := sc_bare_telling.nd; have hu1 := zaf hr; (zb (zC (i := 0) nd rfl (lcF (i := 0) zbv rfl) (zw (za (zG (C 5 _ rfl) hr zaE Z.F5.m Z.F5.kp (zci Z.F5) rfl (za zc (za (zw (za (zG (C 4 _ rfl) hr zbG Z.F4.m Z.F4.kp (zbP Z.F4) rfl (za zl zd) (zt (zbD zc (zt (zt z8))))) zd)) zd)) (zt (zt (zt (zt z8))))) (za (zG (C 5 _ rfl) hr zaE Z.F5.m Z.F5.kp (zci Z.F5) rfl (za zc (za (zw (za (zG (C 4 _ rfl) hr zbG Z.F4.m Z.F4.kp (zbP Z.F4) rfl (za zl zd) (zt (zbD zc (zt (zt z8))))) zd)) zd)) (zt (zt (zt (zt z8))))) (za (zG (C 5 _ rfl) hr zaE Z.F5.m Z.F5.kp (zfM Z.F5) rfl (za (zfj zc) (za (zw zd) zd)) (zt (zbD zc (zt (zt z8))))) (za (zG (C 5 _ rfl) hr zaE Z.F5.m Z.F5.kp (zci Z.F5) rfl (za zc (za (zw zd) zd)) (zt (zt (zt (zt z8))))) zd)))))) (zb (zC (i := 1) nd rfl (lcF (i := 1) zbv rfl) (zw (za zl (za (zG (C 0 _ rfl) hr zca Z.F0.m Z.F0.kp (zbU Z.F0) rfl (za zl zd) (zt (zbD zc (zt (zt z8))))) (za (zG (C 0 _ rfl) hr zca Z.F0.m Z.F0.kp (zbU Z.F0) rfl (za zl zd) (zt (zbD zc (zt (zt z8))))) zd))))) (zb (zy (zk z6 (zf (C 3 _ rfl) hr zcZ Z.F3.m Z.F3.F.kp Z.F3.b (za (zbE zcA Z.c_EACH_WORD) (za (svF zbv 0) (za (zf (C 2 _ rfl) hr zdz Z.F2.m Z.F2.F.kp Z.F2.b (za (zdP (za (svF zbv 1) zd)) zd)) zd)))) (zf (C 9 _ rfl) hr zcd Z.F9.m Z.F9.F.kp Z.F9.b (za zc (za zc zd))))) ze)))
theorem zkF (Z : Facts K mg cl fa fdd) (C : Fns P w K mg base cl fa fdd k) : FnOk P w K mg base (CX1 P w) (k + 1) (fa 14) (fdd 14) ["row", "sentence"] (spI K cl (callT T (k + 1)) 14) :=
  zas (fn := zhY) rfl Z.F14.F sc_carried rfl rfl fun cdv A outer s H E hr => have nd := sc_carried.nd; have hu1 := zaf hr; (zb (zy (zk z6 (zk z6 (zf (C 2 _ rfl) hr zco Z.F2.m Z.F2.F.kp Z.F2.b (za (zdP (za (zw (za zl (za zc zd))) zd)) zd)) (zf (C 3 _ rfl) hr ze0 Z.F3.m Z.F3.F.kp Z.F3.b (za (zbE zdC Z.c_EACH_WORD) (za (svF zg6 1) (za (zf (C 2 _ rfl) hr zco Z.F2.m Z.F2.F.kp Z.F2.b (za (zdP (za (svF zg6 0) zd)) zd)) zd))))) (zf (C 2 _ rfl) hr zco Z.F2.m Z.F2.F.kp Z.F2.b (za (zdP (za (zf (C 6 _ rfl) hr zdA Z.F6.m Z.F6.F.kp Z.F6.b (za (zj (zbE zfs Z.c_MARKS) zc) zd)) zd)) zd)))) ze)
theorem zh7 (Z : Facts K mg cl fa fdd) (C : Fns P w K mg base cl fa fdd k) : FnOk P w K mg base (CX1 P w) (k + 1) (fa 15) (fdd 15) ["lone", "one", "other"] (spI K cl (callT T (k + 1)) 15) :=
  zas (fn := zfN) rfl Z.F15.F sc_lone_sign rfl rfl fun cdv A outer s H E hr => have nd := sc_lone_sign.nd; have hu1 := zaf hr; (zb (zy (zf (C 2 _ rfl) hr zeS Z.F2.m Z.F2.F.kp Z.F2.b (za (zdP (za (zw (za zl (za (zbE zaz Z.c_SPARE) (za (svF zcw 0) (za (svF zcw 1) zd))))) (za (zw (za zl (za (zbE zcH Z.c_SEEN) (za (svF zcw 0) (za (svF zcw 2) zd))))) (za (zw (za zl (za (zbE zaz Z.c_SPARE) (za (zbE zaz Z.c_SPARE) (za (zbE zcH Z.c_SEEN) zd))))) (za (zw (za zl (za (zbE zaz Z.c_SPARE) (za (zbE zaz Z.c_SPARE) zd)))) (za (zf (C 6 _ rfl) hr zc3 Z.F6.m Z.F6.F.kp Z.F6.b (za (zj (zbE zeu Z.c_MARKS) zc) zd)) zd)))))) zd))) ze)
theorem zkD (Z : Facts K mg cl fa fdd) (C : Fns P w K mg base cl fa fdd k) : FnOk P w K mg base (CX1 P w) (k + 1) (fa 16) (fdd 16) ["deed"] (spI K cl (callT T (k + 1)) 16) :=
  zas (fn := zh2) rfl Z.F16.F sc_telling rfl rfl fun cdv A outer s H E hr => have nd := sc_telling.nd; have hu1 := zaf hr; (zb (zY (zba (zaN (zf (C 17 _ rfl) hr zel Z.F17.m Z.F17.F.kp Z.F17.b (za (svF zcL 0) zd)))) (zb zR ze) ze) (zb (zY (zx (zaC hr.units) (zj (svF zcL 0) zc) zl (nomark _)) (zb zR ze) ze) (zb (zY (zx zgF (zj (svF zcL 0) zc) (zbE zeZ Z.c_SHIFTS) (by with_unfolding_all rfl)) (zb zR ze) ze) (zb (zY (zx zgF (zj (svF zcL 0) zc) (zbE zd3 Z.c_PAIRWISE) (by with_unfolding_all rfl)) (zb zR ze) ze) (zb (zy (zf (C 18 _ rfl) hr zcI Z.F18.m Z.F18.F.kp Z.F18.b (za (zj (svF zcL 0) zc) zd))) ze)))))
theorem zkM (Z : Facts K mg cl fa fdd) (C : Fns P w K mg base cl fa fdd k) : FnOk P w K mg base (CX1 P w) (k + 1) (fa 17) (fdd 17) ["thing"] (spI K cl (callT T (k + 1)) 17) :=
  zas (fn := zhU) rfl Z.F17.F sc_is_deed rfl rfl fun cdv A outer s H E hr => have nd := sc_is_deed.nd; have hu1 := zaf hr; (zb (zY (PW.pt (zbF (zba (zaN (zbX (t := .tuple) Z.k_tuple rfl zc9 Z.z_isinstance zft Z.z_tuple zax (svF zbN 0)))) (zbz (zx (zaC hr.units) (zap zaT zdQ Z.z_len zaU (za (svF zbN 0) zd)) zc (nomark _))))) (zb zR ze) ze) (zb (zY (zx (zaC hr.units) (zj (svF zbN 0) zc) zl (nomark _)) (zb zR ze) ze) (zb (zY (zx zgF (zj (svF zbN 0) zc) (zbE zeK Z.c_SHIFTS) (by with_unfolding_all rfl)) (zb zR ze) ze) (zb (zy (zbZ (zbw (zaC hr.units) (zap zaT zdQ Z.z_len zaU (za (svF zbN 0) zd)) zc (nomark _)) (zcx (zon (zbw zgF (zj (svF zbN 0) zc) (zbE ze1 Z.c_PAIRED) (by with_unfolding_all rfl)) (zcx (zbw zgF (zj (svF zbN 0) zc) (zbE zf2 Z.c_LONE) (by with_unfolding_all rfl))))))) ze))))
theorem zfw (Z : Facts K mg cl fa fdd) (C : Fns P w K mg base cl fa fdd k) : FnOk P w K mg base (CX1 P w) (k + 1) (fa 18) (fdd 18) ["name"] (spI K cl (callT T (k + 1)) 18) :=
  zas (fn := zc4) rfl Z.F18.F sc_named_telling rfl rfl fun cdv A outer s H E hr => have nd := sc_named_telling.nd; have hu1 := zaf hr; (zb (zY (zx (zaC hr.units) (svF zaP 0) zl (nomark _)) (zb (zy (zfy (C 10 _ rfl) hr zcf Z.F10.m Z.F10.F.kp Z.F10.b)) ze) ze) (zb (zY (zx (zaC hr.units) (svF zaP 0) zl (nomark _)) (zb (zy (zfy (C 11 _ rfl) hr zbk Z.F11.m Z.F11.F.kp Z.F11.b)) ze) ze) (zb (zY (zx (zaC hr.units) (svF zaP 0) zl (nomark _)) (zb (zy (zfy (C 12 _ rfl) hr zbK Z.F12.m Z.F12.F.kp Z.F12.b)) ze) ze) (zb (zY (zx (zaC hr.units) (svF zaP 0) zl (nomark _)) (zb zR ze) ze) (zb (zY (zx (zaC hr.units) (svF zaP 0) zl (nomark _)) (zb (zy (zfy (C 13 _ rfl) hr zb6 Z.F13.m Z.F13.F.kp Z.F13.b)) ze) ze) (zb zR (zb zR (zb zR (zb zR ze)))))))))
theorem zlX (Z : Facts K mg cl fa fdd) (C : Fns P w K mg base cl fa fdd k) : FnOk P w K mg base (CX1 P w) (k + 1) (fa 19) (fdd 19) ["_law_script"] (spI K cl (callT T (k + 1)) 19) :=
  zas (fn := zfL) rfl Z.F19.F sc_qfresh rfl rfl fun cdv A outer s H E hr => have nd := sc_qfresh.nd; have hu1 := zaf hr; (zb (zy (zht (za (zjQ (svF zlw 0) zhd (zhg zc)) (za zc (za zc (za zns zd)))))) ze)
theorem zlz (Z : Facts K mg cl fa fdd) (C : Fns P w K mg base cl fa fdd k) : FnOk P w K mg base (CX1 P w) (k + 1) (fa 20) (fdd 20) ["_law_seed"] (spI K cl (callT T (k + 1)) 20) :=
  zas (fn := f_qmixed) rfl Z.F20.F sc_qmixed rfl rfl fun cdv A outer s H E hr => have nd := sc_qmixed.nd; have hu1 := zaf hr; (zb (zC (i := 1) nd rfl (lcF (i := 1) zJ rfl) (zw (za zc (za zc (za zc (za zc (za zc zd))))))) (zb (zC (i := 2) nd rfl (lcF (i := 2) zJ rfl) zc) (zb (zbx own1 rfl (zi8 zdZ Z.z_enumerate (svF zJ 1)) (zfk rfl (zaD (i := 3) nd rfl (lcF (i := 3) zJ rfl) (zaD (i := 4) nd rfl (lcF (i := 4) zJ rfl) zdi))) (zb (zC (i := 5) nd rfl (lcF (i := 5) zJ rfl) (zk z6 (svF zJ 0) (zj (zw (za zc (za zc (za zc (za zc (za zc zd)))))) (svF zJ 3)))) (zb (zC (i := 5) nd rfl (lcF (i := 5) zJ rfl) (zk zcz (zk zae (svF zJ 5) (zk z6 zc (zk zae zc (svF zJ 3)))) (svF zJ 4))) (zb (zC (i := 6) nd rfl (lcF (i := 6) zJ rfl) (zk zcz (zk zae (svF zJ 5) (svF zJ 5)) (svF zJ 4))) (zb (zC (i := 7) nd rfl (lcF (i := 7) zJ rfl) (zk zcz (zk zae (zk zcz (zk zae (svF zJ 6) (svF zJ 6)) (svF zJ 4)) (svF zJ 5)) (svF zJ 4))) (zb (zC (i := 2) nd rfl (lcF (i := 2) zJ rfl) (zk z6 (zk zae (svF zJ 2) (svF zJ 4)) (svF zJ 7))) ze)))))) (zb (zy (svF zJ 2)) ze))))
theorem zm0 (Z : Facts K mg cl fa fdd) (C : Fns P w K mg base cl fa fdd k) : FnOk P w K mg base (CX1 P w) (k + 1) (fa 21) (fdd 21) ["_law_state"] (spI K cl (callT T (k + 1)) 21) :=
  zas (fn := zeY) rfl Z.F21.F sc_qfill rfl rfl fun cdv A outer s H E hr => have nd := sc_qfill.nd; have hu1 := zaf hr; (zb (zpQ rfl nd rfl rfl (by decide) (zpq rfl nd rfl rfl (by decide) rfl rfl (za (zj (svF zS 0) zc) (za (zj (svF zS 0) zc) zd)) rfl)) (zb (zC (i := 3) nd rfl (lcF (i := 3) zS rfl) (zk z6 (zk zae zc (svF zS 2)) zc)) (zb (zY (zx zhQ (zap zaT zcv Z.z_len zaU (za (svF zS 1) zd)) zc (nomark _)) (zb (zC (i := 3) nd rfl (lcF (i := 3) zS rfl) (zk zae zc (zk zbL (svF zS 2) (zap zaT zcv Z.z_len zaU (za (svF zS 1) zd))))) (zb (zC (i := 3) nd rfl (lcF (i := 3) zS rfl) (zk z6 (svF zS 3) (zj (svF zS 1) (zk zcz (svF zS 2) (zap zaT zcv Z.z_len zaU (za (svF zS 1) zd)))))) ze)) ze) (zb (zgZ (zk z6 (svF zS 2) zc) (svF zS 0) zc (hg := zfU (svF zS 0) zc zcP)) (zb (zgZ (zon (zbw zpP (svF zS 2) (zap zaT zcv Z.z_len zaU (za (svF zS 1) zd)) (nomark _)) (zcx (zbw zfv (svF zS 3) (zk zlI zc zc) (nomark _)))) (svF zS 0) zc (hg := zfU (svF zS 0) zc zcP)) (zb (zY (zaN (zj (svF zS 0) zc)) (zb (zgZ (zf (C 20 _ rfl) hr zgu Z.F20.m Z.F20.F.kp Z.F20.b (za (svF zS 3) zd)) (svF zS 0) zc (hg := zfU (svF zS 0) zc zcP)) ze) (zb (zgZ (zk zcs (svF zS 3) (zk zlI zc zc)) (svF zS 0) zc (hg := zfU (svF zS 0) zc zcP)) ze)) ze))))))
theorem zne (Z : Facts K mg cl fa fdd) (C : Fns P w K mg base cl fa fdd k) : FnOk P w K mg base (CX1 P w) (k + 1) (fa 22) (fdd 22) ["_law_state", "_law_many"] (spI K cl (callT T (k + 1)) 22) :=
  zas (fn := f_qtake) rfl Z.F22.F sc_qtake rfl rfl fun cdv A outer s H E hr => have nd := sc_qtake.nd; have hu1 := zaf hr; (zb (zC (i := 2) nd rfl (lcF (i := 2) z5 rfl) zc) (zb (znD own1 (PW.pt (zg3 (zx zfv (svF z5 2) zc (nomark _)) (zeL (PW.pt (zbF (zx (zaC hr.units) (zj (svF z5 0) zc) zc (nomark _)) (zbz (PW.pt (zg3 (zaN (zj (svF z5 0) zc)) (zeL (zx zfv (zj (svF z5 0) zc) (zk zae (svF z5 1) zc) (nomark _))))))))))) (zb (zeX (zf (C 21 _ rfl) hr zgD Z.F21.m Z.F21.F.kp Z.F21.b (za (svF z5 0) zd))) (zb (znR (i := 2) nd rfl (lcF (i := 2) z5 rfl) zc zmo) (zb (zY (PW.pt (zg3 (zaN (zj (svF z5 0) zc)) (zeL (zx zfv (zj (svF z5 0) zc) (zk zae (svF z5 1) zc) (nomark _))))) (zb (zgZ (zk z6 (zj (svF z5 0) zc) (zk zae (zk zae (svF z5 1) zc) (zk z6 zc (zk zcz (zj (svF z5 0) zc) zc)))) (svF z5 0) zc (hg := zfU (svF z5 0) zc zcP)) ze) ze) ze)))) (zb (zC (i := 3) nd rfl (lcF (i := 3) z5 rfl) (zk zcz (zj (svF z5 0) zc) (svF z5 1))) (zb (zgZ (zk zbL (zj (svF z5 0) zc) (svF z5 1)) (svF z5 0) zc (hg := zfU (svF z5 0) zc zcP)) (zb (zy (svF z5 3)) ze)))))
theorem zl8 (Z : Facts K mg cl fa fdd) (C : Fns P w K mg base cl fa fdd k) : FnOk P w K mg base (CX1 P w) (k + 1) (fa 23) (fdd 23) ["_law_state", "_law_most"] (spI K cl (callT T (k + 1)) 23) :=
  zas (fn := zfB) rfl Z.F23.F sc_qsizes rfl rfl fun cdv A outer s H E hr => have nd := sc_qsizes.nd; have hu1 := zaf hr; (zb (zy (zw (za (zk z6 zc (zf (C 22 _ rfl) hr zc7 Z.F22.m Z.F22.F.kp Z.F22.b (za (svF zgc 0) (za zc zd)))) (za (zk z6 zc (zf (C 22 _ rfl) hr zc7 Z.F22.m Z.F22.F.kp Z.F22.b (za (svF zgc 0) (za (svF zgc 1) zd)))) zd)))) ze)
theorem zlF (Z : Facts K mg cl fa fdd) (C : Fns P w K mg base cl fa fdd k) : FnOk P w K mg base (CX1 P w) (k + 1) (fa 24) (fdd 24) ["_law_state", "_law_w", "_law_n"] (spI K cl (callT T (k + 1)) 24) :=
  zas (fn := f_qworth) rfl Z.F24.F sc_qworth rfl rfl fun cdv A outer s H E hr => have nd := sc_qworth.nd; have hu1 := zaf hr; (zb (zC (i := 3) nd rfl (lcF (i := 3) zg rfl) (zf (C 22 _ rfl) hr zaV Z.F22.m Z.F22.F.kp Z.F22.b (za (svF zg 0) (za zc zd)))) (zb (zC (i := 4) nd rfl (lcF (i := 4) zg rfl) zc) (zb (zbx own1 rfl (zbB zaW Z.z_range (zk zae (svF zg 1) (svF zg 2))) (zao (i := 5) nd rfl (lcF (i := 5) zg rfl)) (zb (zC (i := 4) nd rfl (lcF (i := 4) zg rfl) (zk zae zc (svF zg 4))) ze)) (zb (zC (i := 6) nd rfl (lcF (i := 6) zg rfl) (zw (za zc (za zc (za (zk zcs (svF zg 4) zc) (za (zk zbL (svF zg 4) zc) (za (zk zcs (zk zbL (svF zg 4) zc) zc) (za (zk zcs (svF zg 4) zc) zd)))))))) (zb (zY (zx zfv (svF zg 3) zc (nomark _)) (zb (zy (zj (svF zg 6) (svF zg 3))) ze) ze) (zb (zC (i := 7) nd rfl (lcF (i := 7) zg rfl) (zf (C 22 _ rfl) hr zaV Z.F22.m Z.F22.F.kp Z.F22.b (za (svF zg 0) (za (svF zg 4) zd)))) (zb (zY (zx (zaC hr.units) (svF zg 3) zc (nomark _)) (zb (zC (i := 8) nd rfl (lcF (i := 8) zg rfl) zc) (zb (zbx own1 rfl (zbB zaW Z.z_range (zf (C 22 _ rfl) hr zaV Z.F22.m Z.F22.F.kp Z.F22.b (za (svF zg 0) (za (zk zae (svF zg 1) (svF zg 2)) zd)))) (zao (i := 5) nd rfl (lcF (i := 5) zg rfl)) (zb (zC (i := 8) nd rfl (lcF (i := 8) zg rfl) (zk zae zc (svF zg 8))) ze)) (zb (zy (zk zae (zk zbL (svF zg 7) (svF zg 8)) (svF zg 8))) ze))) ze) (zb (zY (zx (zaC hr.units) (svF zg 3) zc (nomark _)) (zb (zC (i := 8) nd rfl (lcF (i := 8) zg rfl) zc) (zb (zbx own1 rfl (zbB zaW Z.z_range (zf (C 22 _ rfl) hr zaV Z.F22.m Z.F22.F.kp Z.F22.b (za (svF zg 0) (za (zk zae (svF zg 1) (svF zg 2)) zd)))) (zao (i := 5) nd rfl (lcF (i := 5) zg rfl)) (zb (zC (i := 8) nd rfl (lcF (i := 8) zg rfl) (zk zae zc (svF zg 8))) ze)) (zb (zy (zk zcs (svF zg 4) (svF zg 8))) ze))) ze) (zb (zY (zx zhQ (svF zg 3) zc (nomark _)) (zb (zy (svF zg 7)) ze) ze) (zb (zC (i := 9) nd rfl (lcF (i := 9) zg rfl) zc) (zb (zbx own1 rfl (zbB zaW Z.z_range (svF zg 1)) (zao (i := 5) nd rfl (lcF (i := 5) zg rfl)) (zb (zC (i := 9) nd rfl (lcF (i := 9) zg rfl) (zk zae zc (svF zg 9))) ze)) (zb (zC (i := 10) nd rfl (lcF (i := 10) zg rfl) zc) (zb (zbx own1 rfl (zbB zaW Z.z_range (svF zg 2)) (zao (i := 5) nd rfl (lcF (i := 5) zg rfl)) (zb (zC (i := 11) nd rfl (lcF (i := 11) zg rfl) (zk zcz (zk zbL (svF zg 7) (zk z6 (svF zg 5) zc)) (svF zg 9))) (zb (zC (i := 12) nd rfl (lcF (i := 12) zg rfl) (zw (za zc (za zc (za (zk zcs (svF zg 9) zc) (za (zk zbL (svF zg 9) zc) (za (svF zg 11) zd))))))) (zb (zC (i := 10) nd rfl (lcF (i := 10) zg rfl) (zk z6 (zk zae (svF zg 10) (svF zg 9)) (zj (svF zg 12) (zf (C 22 _ rfl) hr zaV Z.F22.m Z.F22.F.kp Z.F22.b (za (svF zg 0) (za zc zd)))))) ze)))) (zb (zy (svF zg 10)) ze))))))))))))))
theorem zkz (Z : Facts K mg cl fa fdd) (C : Fns P w K mg base cl fa fdd k) : FnOk P w K mg base (CX1 P w) (k + 1) (fa 25) (fdd 25) ["_law_many"] (spI K cl (callT T (k + 1)) 25) :=
  zas (fn := zf7) rfl Z.F25.F sc_qtwo_to rfl rfl fun cdv A outer s H E hr => have nd := sc_qtwo_to.nd; have hu1 := zaf hr; (zb (zC (i := 1) nd rfl (lcF (i := 1) zcg rfl) zc) (zb (zbx own1 rfl (zbB zfx Z.z_range (svF zcg 0)) (zao (i := 2) nd rfl (lcF (i := 2) zcg rfl)) (zb (zC (i := 1) nd rfl (lcF (i := 1) zcg rfl) (zk zae zc (svF zcg 1))) ze)) (zb (zy (svF zcg 1)) ze)))
theorem zls (Z : Facts K mg cl fa fdd) (C : Fns P w K mg base cl fa fdd k) : FnOk P w K mg base (CX1 P w) (k + 1) (fa 26) (fdd 26) ["_law_worth_here", "_law_w", "_law_n"] (spI K cl (callT T (k + 1)) 26) :=
  zas (fn := zfH) rfl Z.F26.F sc_qwords rfl rfl fun cdv A outer s H E hr => have nd := sc_qwords.nd; have hu1 := zaf hr; (zb (zC (i := 3) nd rfl (lcF (i := 3) zaO rfl) (zf (C 25 _ rfl) hr zeO Z.F25.m Z.F25.F.kp Z.F25.b (za (svF zaO 1) zd))) (zb (zC (i := 4) nd rfl (lcF (i := 4) zaO rfl) (zht zd)) (zb (zbx own1 rfl (zbB zf8 Z.z_range (svF zaO 2)) (zao (i := 5) nd rfl (lcF (i := 5) zaO rfl)) (zb (zeX (zdn (svF zaO 4) (zk zcz (svF zaO 0) (svF zaO 3)))) (zb (zC (i := 0) nd rfl (lcF (i := 0) zaO rfl) (zk zbL (svF zaO 0) (svF zaO 3))) ze))) (zb (zy (zeR zfE zf6 Z.z_tuple zax (za (svF zaO 4) zd))) ze))))
theorem zll (Z : Facts K mg cl fa fdd) (C : Fns P w K mg base cl fa fdd k) : FnOk P w K mg base (CX1 P w) (k + 1) (fa 27) (fdd 27) ["_law_thing_here"] (spI K cl (callT T (k + 1)) 27) :=
  zas (fn := zjs) rfl Z.F27.F sc_qwhole rfl rfl fun cdv A outer s H E hr => have nd := sc_qwhole.nd; have hu1 := zaf hr; (zb (zy (zbZ (zbX (t := .int) Z.k_int rfl zb9 Z.z_isinstance zhx Z.z_int zmq (svF zhN 0)) (zcx (zo9 (zbX (t := .bool) Z.k_bool rfl zb9 Z.z_isinstance zgH Z.z_bool zod (svF zhN 0)))))) ze)
theorem zkj (Z : Facts K mg cl fa fdd) (C : Fns P w K mg base cl fa fdd k) : FnOk P w K mg base (CX1 P w) (k + 1) (fa 28) (fdd 28) ["_law_thing_here", "_law_many", "_law_most"] (spI K cl (callT T (k + 1)) 28) :=
  zas (fn := zh6) rfl Z.F28.F sc_qwholes rfl rfl fun cdv A outer s H E hr => have nd := sc_qwholes.nd; have hu1 := zaf hr; (zb (zY (PW.pt (zbF (zba (zaN (zbX (t := .tuple) Z.k_tuple rfl zdj Z.z_isinstance zfr Z.z_tuple zax (svF zdv 0)))) (zbz (zx (zdX hr.units) (zap zaT zgB Z.z_len zaU (za (svF zdv 0) zd)) (svF zdv 1) (nomark _))))) (zb zR ze) ze) (zb (zy (zap (zim rfl) zgE Z.z_all zid (za (zd2 rfl (compOk (NC := ["_law_part_here", "_law_most"]) (slots := [none, some 2]) ["_law_thing_here", "_law_many", "_law_most"] (defScope zan) rfl rfl rfl (by decide +kernel) (by decide +kernel) (by decide +kernel) (by decide +kernel) rfl) (by decide) (zcN (svF zdv 0)) (fun j => zdV rfl (zao (i := 0) (show (["_law_part_here", "_law_most"] : List Str).Nodup by decide +kernel) rfl (by first | exact Or.inl rfl | exact Or.inr rfl))) (fun j => zcO) (fun j => zdW rfl (zbZ (zf (C 27 _ rfl) hr rfl Z.F27.m Z.F27.F.kp Z.F27.b (za (sv 0) zd)) (zcx (zng zmE zmE (zk zcs zc (sv 1)) (sv 0) (sv 1)))))) zd))) ze))
theorem zkr (Z : Facts K mg cl fa fdd) (C : Fns P w K mg base cl fa fdd k) : FnOk P w K mg base (CX1 P w) (k + 1) (fa 29) (fdd 29) ["_law_thing_here"] (spI K cl (callT T (k + 1)) 29) :=
  zas (fn := zhW) rfl Z.F29.F sc_qletter rfl rfl fun cdv A outer s H E hr => have nd := sc_qletter.nd; have hu1 := zaf hr; (zb (zy (zbZ (zbX (t := .str) Z.k_str rfl zdh Z.z_isinstance zgC Z.z_str zn1 (svF zeM 0)) (zbZ (zbw (zaC hr.units) (zap zaT zgI Z.z_len zaU (za (svF zeM 0) zd)) zc (nomark _)) (zcx (zbw zgF (svF zeM 0) zl (by with_unfolding_all rfl)))))) ze)
theorem zgN (Z : Facts K mg cl fa fdd) (C : Fns P w K mg base cl fa fdd k) : FnOk P w K mg base (CX1 P w) (k + 1) (fa 30) (fdd 30) ["_law_thing_here"] (spI K cl (callT T (k + 1)) 30) :=
  zas (fn := zec) rfl Z.F30.F sc_qindex_cell rfl rfl fun cdv A outer s H E hr => have nd := sc_qindex_cell.nd; have hu1 := zaf hr; (zb (zy (zbZ (zbX (t := .tuple) Z.k_tuple rfl zcF Z.z_isinstance zdH Z.z_tuple zax (svF zbV 0)) (zbZ (zbw (zaC hr.units) (zap zaT zeh Z.z_len zaU (za (svF zbV 0) zd)) zc (nomark _)) (zbZ (zf (C 29 _ rfl) hr zcY Z.F29.m Z.F29.F.kp Z.F29.b (za (zj (svF zbV 0) zc) zd)) (zcx (zf (C 28 _ rfl) hr zc1 Z.F28.m Z.F28.F.kp Z.F28.b (za (zj (svF zbV 0) zc) (za zc (za zc zd))))))))) ze)
def okD : List (Option Expr) -> List Expr -> List (Str × Int) -> Bool
  | [], [], [] => true
  | some (.Constant (.str x) _ _) :: ks, .Constant (.int i) _ _ :: vs, (y, j) :: kvs => decide (x = y) && (decide (i = j) && okD ks vs kvs)
  | _, _, _ => false
theorem zp7 {X : L2.Cx} {pos : Pos} : ∀ {ks : List (Option Expr)} {vs : List Expr} {kvs : List (Str × Int)}, okD ks vs kvs = true -> PPs X pos ks vs (trC kvs)
  | [], [], [], _ => zpD
  | some (.Constant (.str x) _ _) :: ks, .Constant (.int i) _ _ :: vs, (y, j) :: kvs, h => by
    simp only [okD, Bool.and_eq_true, decide_eq_true_eq] at h
    obtain ⟨rfl, rfl, h⟩ := h
    exact zo0 (zp7 h)
@[irreducible] def PEi (X : L2.Cx) (a : Expr) (t : L2.TE) : Prop := L2.PE X a t
theorem zpX {X : L2.Cx} {a : Expr} {t : L2.TE} (h : L2.PE X a t) : PEi X a t := by unfold PEi; exact h
theorem zpY {X : L2.Cx} {a : Expr} {t : L2.TE} (h : PEi X a t) : L2.PE X a t := by unfold PEi at h; exact h
theorem znv {S : Se} {X : L2.Cx} {pos : Pos} {ks : List (Option Expr)} {vs : List Expr} {kvs : List (Str × Int)} (h : okD ks vs kvs = true) (hall : ks.all (·.isSome) = true) (hl : ks.length = vs.length) (h0 : ks ≠ []) (h15 : ks.length <= 15) : PEi X (.Dict ks vs pos) (tE S X (.newd kvs)) := zpX (zoD (zp7 h) hall hl h0 h15)
theorem zoU {S : Se} {X : L2.Cx} {a : Expr} {ca : Ce} {px pos : Pos} {i : Nat} {x : Str} (hN : X.N.Nodup) (hi : X.N[i]? = some x) (hx : Loc X.env.scope x) (he : PEi X a (tE S X ca)) (hs : swapsWith a (some (.Name x px)) pos.line X.env = pure false)
    (hf : X.fn x = true \/ X.env.scope.names.lookup x = some .local) : PS X (.Assign [.Name x px] a pos) (tS S X (.asg (.n i) ca)) := zC hN hi hx (zpY he) hs hf
@[irreducible] def PSI (X : L2.Cx) (s : Stmt) (t : L2.TS) : Prop := L2.PS X s t
@[irreducible] def PSsI (X : L2.Cx) (s : List Stmt) (t : L2.TS) : Prop := L2.PSs X s t
theorem zpe {X : L2.Cx} {a : Stmt} {t : L2.TS} (h : L2.PS X a t) : PSI X a t := by unfold PSI; exact h
theorem zp0 {X : L2.Cx} {a : Stmt} {t : L2.TS} (h : PSI X a t) : L2.PS X a t := by unfold PSI at h; exact h
theorem zlG {X : L2.Cx} {a : List Stmt} {t : L2.TS} (h : L2.PSs X a t) : PSsI X a t := by unfold PSsI; exact h
theorem zln {X : L2.Cx} {a : List Stmt} {t : L2.TS} (h : PSsI X a t) : L2.PSs X a t := by unfold PSsI at h; exact h
theorem znr {S : Se} {X : L2.Cx} {s1 : Stmt} {ss : List Stmt} {c1 : Cs} {cs : Css} (h1 : PSI X s1 (tS S X c1)) (h2 : PSsI X ss (tSs S X cs)) : PSsI X (s1 :: ss) (tSs S X (.cons c1 cs)) := zlG (zb (zp0 h1) (zln h2))
theorem zoR {S : Se} {X : L2.Cx} {a : Expr} {ca : Ce} {px pos : Pos} {i : Nat} {x : Str} (hN : X.N.Nodup) (hi : X.N[i]? = some x) (hx : Loc X.env.scope x) (he : PEi X a (tE S X ca)) (hs : swapsWith a (some (.Name x px)) pos.line X.env = pure false)
    (hf : X.fn x = true \/ X.env.scope.names.lookup x = some .local) : PSI X (.Assign [.Name x px] a pos) (tS S X (.asg (.n i) ca)) := zpe (zoU hN hi hx he hs hf)
theorem znd {S : Se} {X : L2.Cx} {s1 : Stmt} {ss : List Stmt} {c1 : Cs} {cs : Css} (h1 : L2.PS X s1 (tS S X c1)) (h2 : PSsI X ss (tSs S X cs)) : L2.PSs X (s1 :: ss) (tSs S X (.cons c1 cs)) := zb h1 (zln h2)
theorem zfX (Z : Facts K mg cl fa fdd) (C : Fns P w K mg base cl fa fdd k) : FnOk P w K mg base (CX1 P w) (k + 1) (fa 31) (fdd 31) ["_law_row"] (spI K cl (callT T (k + 1)) 31) :=
  zas (fn := zdO) rfl Z.F31.F sc_qtelling_row rfl rfl fun cdv A outer s H E hr => have nd := sc_qtelling_row.nd; have hu1 := zaf hr; (zb (zY (PW.pt (zbF (zba (zaN (zbX (t := .tuple) Z.k_tuple rfl za9 Z.z_isinstance zdo Z.z_tuple zax (svF zn 0)))) (zbF (zx zfv (zap zaT zam Z.z_len zaU (za (svF zn 0) zd)) zc (nomark _)) (zbz (zba (zaN (zbX (t := .str) Z.k_str rfl za9 Z.z_isinstance zd8 Z.z_str zn1 (zj (svF zn 0) zc)))))))) (zb zR ze) ze) (zb (zY (zx (zaC hr.units) (zj (svF zn 0) zc) zl (nomark _)) (zb (zy (zbZ (zbw (zaC hr.units) (zap zaT zam Z.z_len zaU (za (svF zn 0) zd)) zc (nomark _)) (zbZ (zf (C 27 _ rfl) hr zbI Z.F27.m Z.F27.F.kp Z.F27.b (za (zj (svF zn 0) zc) zd)) (zcx (zbw zgF (zj (svF zn 0) zc) (zw (za zc (za zc zd))) (by with_unfolding_all rfl)))))) ze) ze) (zb (zY (zx (zaC hr.units) (zj (svF zn 0) zc) zl (nomark _)) (zb (zy (zbZ (zbw (zaC hr.units) (zap zaT zam Z.z_len zaU (za (svF zn 0) zd)) zc (nomark _)) (zcx (zf (C 30 _ rfl) hr za1 Z.F30.m Z.F30.F.kp Z.F30.b (za (zj (svF zn 0) zc) zd))))) ze) ze) (znd (zY (zx (zaC hr.units) (zj (svF zn 0) zc) zl (nomark _)) (zb (zy (zbZ (zbw (zaC hr.units) (zap zaT zam Z.z_len zaU (za (svF zn 0) zd)) zc (nomark _)) (zbZ (zf (C 30 _ rfl) hr za1 Z.F30.m Z.F30.F.kp Z.F30.b (za (zj (svF zn 0) zc) zd)) (zbZ (zf (C 27 _ rfl) hr zbI Z.F27.m Z.F27.F.kp Z.F27.b (za (zj (svF zn 0) zc) zd)) (zcx (zbw zgF (zj (svF zn 0) zc) (zw (za zc (za zc zd))) (by with_unfolding_all rfl))))))) ze) ze) (znr (zoR (i := 1) nd rfl (lcF (i := 1) zn rfl) (znv rfl rfl rfl (by simp) (by decide)) rfl (by first | exact .inl rfl | exact .inr rfl | assumption)) (zlG (zb (zbi hu1 (svF zn 1) zl zc) (zb (zY (PW.pt (zbF (zx (zdX hr.units) (zee hu1 (svF zn 1) (zj (svF zn 0) zc) zc) (zap zaT zam Z.z_len zaU (za (svF zn 0) zd)) (nomark _)) (zbz (zba (zaN (zap (zim rfl) zdS Z.z_all zid (za (zd2 rfl (compOk (NC := ["_law_part_here"]) (slots := [none]) ["_law_row", "_law_lengths"] (defScope zz) rfl rfl rfl (by decide +kernel) (by decide +kernel) (by decide +kernel) (by decide +kernel) rfl) (by decide) (zcN (zjQ (svF zn 0) (zhg zc) zhd)) (fun j => zdV rfl (zao (i := 0) (show (["_law_part_here"] : List Str).Nodup by decide +kernel) rfl (by first | exact Or.inl rfl | exact Or.inr rfl))) (fun j => zcO) (fun j => zdW rfl (zf (C 30 _ rfl) hr rfl Z.F30.m Z.F30.F.kp Z.F30.b (za (sv 0) zd)))) zd))))))) (zb zR ze) ze) (zb (zy (zon (zbw (zdX hr.units) (zj (svF zn 0) zc) zl (nomark _)) (zcx (zbw (zdX hr.units) (zj (svF zn 0) zc) (zj (svF zn 0) zc) (nomark _))))) ze)))))))))
theorem zmu (Z : Facts K mg cl fa fdd) (C : Fns P w K mg base cl fa fdd k) : FnOk P w K mg base (CX1 P w) (k + 1) (fa 32) (fdd 32) ["_law_thing_here"] (spI K cl (callT T (k + 1)) 32) :=
  zas (fn := zjy) rfl Z.F32.F sc_qthing rfl rfl fun cdv A outer s H E hr => have nd := sc_qthing.nd; have hu1 := zaf hr; (zb (zY (zx (zaC hr.units) (svF zcr 0) (zw (za zl zd)) (nomark _)) (zb (zy zns) ze) ze) (zb (zY (PW.pt (zbF (zba (zaN (zbX (t := .tuple) Z.k_tuple rfl zdB Z.z_isinstance zgp Z.z_tuple zax (svF zcr 0)))) (zbF (zx (zdX hr.units) (zap zaT zhq Z.z_len zaU (za (svF zcr 0) zd)) zc (nomark _)) (zbF (zx (zdX hr.units) (zj (svF zcr 0) zc) zl (nomark _)) (zbz (zba (zaN (zf (C 29 _ rfl) hr zeI Z.F29.m Z.F29.F.kp Z.F29.b (za (zj (svF zcr 0) zc) zd))))))))) (zb zR ze) ze) (zb (zy (zbZ (zf (C 28 _ rfl) hr zcK Z.F28.m Z.F28.F.kp Z.F28.b (za (zj (svF zcr 0) zc) (za zc (za zc zd)))) (zcx (zf (C 28 _ rfl) hr zcK Z.F28.m Z.F28.F.kp Z.F28.b (za (zj (svF zcr 0) zc) (za zc (za zc zd))))))) ze)))
theorem zfR (Z : Facts K mg cl fa fdd) (C : Fns P w K mg base cl fa fdd k) : FnOk P w K mg base (CX1 P w) (k + 1) (fa 33) (fdd 33) ["_law_told"] (spI K cl (callT T (k + 1)) 33) :=
  zas (fn := zdJ) rfl Z.F33.F sc_qis_sentence rfl rfl fun cdv A outer s H E hr => have nd := sc_qis_sentence.nd; have hu1 := zaf hr; (zb (zY (PW.pt (zbF (zba (zaN (zbX (t := .tuple) Z.k_tuple rfl zav Z.z_isinstance zaZ Z.z_tuple zax (svF zL 0)))) (zbz (zx zhQ (zap zaT zbn Z.z_len zaU (za (svF zL 0) zd)) zc (nomark _))))) (zb zR ze) ze) (zb (zbx own1 rfl (zcN (svF zL 0)) (zao (i := 1) nd rfl (lcF (i := 1) zL rfl)) (zb (zY (PW.pt (zbF (zba (zaN (zbX (t := .tuple) Z.k_tuple rfl zav Z.z_isinstance zaZ Z.z_tuple zax (svF zL 1)))) (zbF (zx (zdX hr.units) (zap zaT zbn Z.z_len zaU (za (svF zL 1) zd)) zc (nomark _)) (zbz (zba (zaN (zf (C 28 _ rfl) hr zcQ Z.F28.m Z.F28.F.kp Z.F28.b (za (zj (svF zL 1) zc) (za zc (za zc zd)))))))))) (zb zR ze) ze) (zb (zY (PW.pt (zbF (zba (zaN (zf (C 27 _ rfl) hr zcX Z.F27.m Z.F27.F.kp Z.F27.b (za (zj (svF zL 1) zc) zd)))) (zbF (zx zpP (zap zpy zd1 Z.z_abs zqa (za (zj (svF zL 1) zc) zd)) (zk zlI zc zc) (nomark _)) (zbz (zba (zaN (zbX (t := .tuple) Z.k_tuple rfl zav Z.z_isinstance zaZ Z.z_tuple zax (zj (svF zL 1) zc)))))))) (zb zR ze) ze) (zb (zY (PW.pt (zbF (zx zhQ (zap zaT zbn Z.z_len zaU (za (zj (svF zL 1) zc) zd)) zc (nomark _)) (zbz (zba (zaN (zap (zim rfl) zd4 Z.z_all zid (za (zd2 rfl (compOk (NC := ["_law_thing_here"]) (slots := [none]) ["_law_told", "_law_term"] (defScope zA) rfl rfl rfl (by decide +kernel) (by decide +kernel) (by decide +kernel) (by decide +kernel) rfl) (by decide) (zcN (zj (svF zL 1) zc)) (fun j => zdV rfl (zao (i := 0) (show (["_law_thing_here"] : List Str).Nodup by decide +kernel) rfl (by first | exact Or.inl rfl | exact Or.inr rfl))) (fun j => zcO) (fun j => zdW rfl (zf (C 32 _ rfl) hr rfl Z.F32.m Z.F32.F.kp Z.F32.b (za (sv 0) zd)))) zd))))))) (zb zR ze) ze) ze)))) (zb (zy zns) ze)))
theorem zmH (Z : Facts K mg cl fa fdd) (C : Fns P w K mg base cl fa fdd k) : FnOk P w K mg base (CX1 P w) (k + 1) (fa 34) (fdd 34) ["_law_part_here", "_law_deep"] (spI K cl (callT T (k + 1)) 34) :=
  zas (fn := zms) rfl Z.F34.F sc_qpart rfl rfl fun cdv A outer s H E hr => have nd := sc_qpart.nd; have hu1 := zaf hr; (zb (zY (PW.pt (zbF (zba (zaN (zbX (t := .tuple) Z.k_tuple rfl zch Z.z_isinstance zdM Z.z_tuple zax (svF zbc 0)))) (zbz (zx zfv (zap zaT zdd Z.z_len zaU (za (svF zbc 0) zd)) zc (nomark _))))) (zb zR ze) ze) (zb (zY (zx (zaC hr.units) (zj (svF zbc 0) zc) zl (nomark _)) (zb (zy (zbZ (zbw (zaC hr.units) (zap zaT zdd Z.z_len zaU (za (svF zbc 0) zd)) zc (nomark _)) (zcx (zf (C 31 _ rfl) hr zc6 Z.F31.m Z.F31.F.kp Z.F31.b (za (zj (svF zbc 0) zc) zd))))) ze) ze) (zb (zY (PW.pt (zbF (zx (zdX hr.units) (zj (svF zbc 0) zc) zl (nomark _)) (zbF (zx (zdX hr.units) (zap zaT zdd Z.z_len zaU (za (svF zbc 0) zd)) zc (nomark _)) (zbF (zx zhQ (svF zbc 1) zc (nomark _)) (zbz (zba (zaN (zf (C 28 _ rfl) hr zfn Z.F28.m Z.F28.F.kp Z.F28.b (za (zj (svF zbc 0) zc) (za zc (za zc zd))))))))))) (zb zR ze) ze) (zb (zY (PW.pt (zbF (zba (zaN (zf (C 33 _ rfl) hr zdl Z.F33.m Z.F33.F.kp Z.F33.b (za (zj (svF zbc 0) zc) zd)))) (zbz (zba (zaN (zbX (t := .tuple) Z.k_tuple rfl zch Z.z_isinstance zdM Z.z_tuple zax (zj (svF zbc 0) zc))))))) (zb zR ze) ze) (zb (zy (zap (zim rfl) zic Z.z_all zid (za (zd2 rfl (compOk (NC := ["_law_inner", "_law_deep"]) (slots := [none, some 1]) ["_law_part_here", "_law_deep"] (defScope zaR) rfl rfl rfl (by decide +kernel) (by decide +kernel) (by decide +kernel) (by decide +kernel) rfl) (by decide) (zcN (zj (svF zbc 0) zc)) (fun j => zdV rfl (zao (i := 0) (show (["_law_inner", "_law_deep"] : List Str).Nodup by decide +kernel) rfl (by first | exact Or.inl rfl | exact Or.inr rfl))) (fun j => zcO) (fun j => zdW rfl (zf (C 34 _ rfl) hr rfl Z.F34.m Z.F34.F.kp Z.F34.b (za (sv 0) (za (zk z6 (sv 1) zc) zd))))) zd))) ze)))))
theorem zgK (Z : Facts K mg cl fa fdd) (C : Fns P w K mg base cl fa fdd k) : FnOk P w K mg base (CX1 P w) (k + 1) (fa 35) (fdd 35) ["_law_told"] (spI K cl (callT T (k + 1)) 35) :=
  zas (fn := zei) rfl Z.F35.F sc_qis_telling rfl rfl fun cdv A outer s H E hr => have nd := sc_qis_telling.nd; have hu1 := zaf hr; (zb (zy (zbZ (zbX (t := .tuple) Z.k_tuple rfl zcB Z.z_isinstance zdG Z.z_tuple zax (svF zdR 0)) (zcx (zap (zim rfl) zeb Z.z_all zid (za (zd2 rfl (compOk (NC := ["_law_part_here"]) (slots := [none]) ["_law_told"] (defScope zP) rfl rfl rfl (by decide +kernel) (by decide +kernel) (by decide +kernel) (by decide +kernel) rfl) (by decide) (zcN (svF zdR 0)) (fun j => zdV rfl (zao (i := 0) (show (["_law_part_here"] : List Str).Nodup by decide +kernel) rfl (by first | exact Or.inl rfl | exact Or.inr rfl))) (fun j => zcO) (fun j => zdW rfl (zf (C 34 _ rfl) hr rfl Z.F34.m Z.F34.F.kp Z.F34.b (za (sv 0) (za zc zd))))) zd))))) ze)
theorem zpr (Z : Facts K mg cl fa fdd) (C : Fns P w K mg base cl fa fdd k) : FnOk P w K mg base (CX1 P w) (k + 1) (fa 36) (fdd 36) ["_law_index", "_law_i", "_law_j", "_law_n"] (spI K cl (callT T (k + 1)) 36) :=
  zas (fn := zp6) rfl Z.F36.F sc_qat rfl rfl fun cdv A outer s H E hr => have nd := sc_qat.nd; have hu1 := zaf hr; (zb (zy (zk z6 (zk z6 (zk z6 (zj (svF zgq 0) zc) (zk zae (zj (svF zgq 0) zc) (svF zgq 1))) (zk zae (zj (svF zgq 0) zc) (svF zgq 2))) (zk zae (zj (svF zgq 0) zc) (svF zgq 3)))) ze)
theorem zhh (Z : Facts K mg cl fa fdd) (C : Fns P w K mg base cl fa fdd k) : FnOk P w K mg base (CX1 P w) (k + 1) (fa 37) (fdd 37) ["_law_row", "_law_i", "_law_j", "_law_n"] (spI K cl (callT T (k + 1)) 37) :=
  zas (fn := ze7) rfl Z.F37.F sc_qplain_row rfl rfl fun cdv A outer s H E hr => have nd := sc_qplain_row.nd; have hu1 := zaf hr; (zb (zC (i := 4) nd rfl (lcF (i := 4) zN rfl) (zht (za (zj (svF zN 0) zc) zd))) (zb (zbx own1 rfl (zcN (zjQ (svF zN 0) (zhg zc) zhd)) (zao (i := 5) nd rfl (lcF (i := 5) zN rfl)) (zb (zY (zaN (zbX (t := .tuple) Z.k_tuple rfl zcG Z.z_isinstance zcq Z.z_tuple zax (svF zN 5))) (zb (zeX (zdn (svF zN 4) (zw (za (zj (svF zN 5) zc) (za (zf (C 36 _ rfl) hr zeT Z.F36.m Z.F36.F.kp Z.F36.b (za (zj (svF zN 5) zc) (za (svF zN 1) (za (svF zN 2) (za (svF zN 3) zd))))) zd))))) ze) (zb (zeX (zdn (svF zN 4) (svF zN 5))) ze)) ze)) (zb (zy (zeR zfE zcq Z.z_tuple zax (za (svF zN 4) zd))) ze)))
theorem zhH (Z : Facts K mg cl fa fdd) (C : Fns P w K mg base cl fa fdd k) : FnOk P w K mg base (CX1 P w) (k + 1) (fa 38) (fdd 38) ["_law_cells", "_law_mark", "_law_row", "_law_wide"] (spI K cl (callT T (k + 1)) 38) :=
  zas (fn := zbl) rfl Z.F38.F sc_qone_done rfl rfl fun cdv A outer s H E hr => have nd := sc_qone_done.nd; have hu1 := zaf hr; (zb (zC (i := 4) nd rfl (lcF (i := 4) zq rfl) (zee hu1 (svF zq 0) (zj (svF zq 2) zc) zc)) (zb (zY (zx (zaC hr.units) (zj (svF zq 2) zc) zl (nomark _)) (zb (zbi hu1 (svF zq 0) (zj (svF zq 2) zc) (svF zq 4)) ze) ze) (zb (zY (zx (zaC hr.units) (zj (svF zq 2) zc) zl (nomark _)) (zb (zbi hu1 (svF zq 0) (zj (svF zq 2) zc) (zk zcs (zk zcs (svF zq 3) zc) (svF zq 4))) ze) ze) (zb (zY (zx (zaC hr.units) (zj (svF zq 2) zc) zl (nomark _)) (zb (zbi hu1 (svF zq 0) (zj (svF zq 2) zc) (zk zcz (zk z6 (zk zae zc (svF zq 4)) (svF zq 1)) (svF zq 3))) (zb (zy (zk zbL (zk z6 (zk zae zc (svF zq 4)) (svF zq 1)) (svF zq 3))) ze)) ze) (zb (zY (zx (zaC hr.units) (zj (svF zq 2) zc) zl (nomark _)) (zb (zbi hu1 (svF zq 0) (zj (svF zq 2) zc) (zk z6 (zk zbL (svF zq 4) zc) (zk zae (svF zq 1) (zk zbL (svF zq 3) zc)))) (zb (zy (zk zcz (svF zq 4) zc)) ze)) ze) (zb (zy (svF zq 1)) ze))))))
theorem znt (Z : Facts K mg cl fa fdd) (C : Fns P w K mg base cl fa fdd k) : FnOk P w K mg base (CX1 P w) (k + 1) (fa 39) (fdd 39) ["_law_cells", "_law_mark", "_law_row", "_law_wide"] (spI K cl (callT T (k + 1)) 39) :=
  zas (fn := zbh) rfl Z.F39.F sc_qdone rfl rfl fun cdv A outer s H E hr => have nd := sc_qdone.nd; have hu1 := zaf hr; (zb (zY (zx (zaC hr.units) (zj (svF zh 2) zc) zl (nomark _)) (zb (zy (zj (svF zh 2) zc)) ze) ze) (zb (zY (zx (zaC hr.units) (zj (svF zh 2) zc) zl (nomark _)) (zb (zy (zeR znP ze4 Z.z_int zmq (za (zbw (zdX hr.units) (zee hu1 (svF zh 0) (zj (svF zh 2) zc) zc) zc (nomark _)) zd))) ze) ze) (zb (zY (zx (zaC hr.units) (zj (svF zh 2) zc) zl (nomark _)) (zb (zbi hu1 (svF zh 0) (zj (svF zh 2) zc) (zj (svF zh 2) zc)) (zb (zy (svF zh 1)) ze)) ze) (zb (zY (zx (zaC hr.units) (zap zaT zh5 Z.z_len zaU (za (svF zh 2) zd)) zc (nomark _)) (zb (zy (zf (C 38 _ rfl) hr zeA Z.F38.m Z.F38.F.kp Z.F38.b (za (svF zh 0) (za (svF zh 1) (za (svF zh 2) (za (svF zh 3) zd)))))) ze) ze) (zb (zY (zx (zaC hr.units) (zj (svF zh 2) zc) zl (nomark _)) (zb (zC (i := 4) nd rfl (lcF (i := 4) zh rfl) (zk zae (zee hu1 (svF zh 0) (zj (svF zh 2) zc) zc) (zee hu1 (svF zh 0) (zj (svF zh 2) zc) zc))) (zb (zbi hu1 (svF zh 0) (zj (svF zh 2) zc) (zk zcz (svF zh 4) (svF zh 3))) (zb (zbi hu1 (svF zh 0) (zj (svF zh 2) zc) (zk zbL (svF zh 4) (svF zh 3))) (zb (zy (svF zh 1)) ze)))) ze) (zb (zC (i := 5) nd rfl (lcF (i := 5) zh rfl) (zee hu1 (svF zh 0) (zj (svF zh 2) zc) zc)) (zb (zC (i := 6) nd rfl (lcF (i := 6) zh rfl) (zee hu1 (svF zh 0) (zj (svF zh 2) zc) zc)) (zb (zY (zx (zaC hr.units) (zj (svF zh 2) zc) zl (nomark _)) (zb (zbi hu1 (svF zh 0) (zj (svF zh 2) zc) (zk zcz (zk z6 (zk z6 (svF zh 5) (svF zh 6)) (svF zh 1)) (svF zh 3))) (zb (zy (zk zbL (zk z6 (zk z6 (svF zh 5) (svF zh 6)) (svF zh 1)) (svF zh 3))) ze)) ze) (zb (zY (zx (zaC hr.units) (zj (svF zh 2) zc) zl (nomark _)) (zb (zbi hu1 (svF zh 0) (zj (svF zh 2) zc) (zk zcz (zk zcs (zk zcs (svF zh 5) (svF zh 6)) (svF zh 1)) (svF zh 3))) (zb (zy (zeR znP ze4 Z.z_int zmq (za (zbw zfv (zk zcs (zk zcs (svF zh 5) (svF zh 6)) (svF zh 1)) zc (nomark _)) zd))) ze)) ze) (zb (zY (zx (zaC hr.units) (zj (svF zh 2) zc) zl (nomark _)) (zb (zbi hu1 (svF zh 0) (zj (svF zh 2) zc) (zk zoH (svF zh 5) (svF zh 6))) ze) ze) (zb (zY (zx (zaC hr.units) (zj (svF zh 2) zc) zl (nomark _)) (zb (zbi hu1 (svF zh 0) (zj (svF zh 2) zc) (zk zp3 (svF zh 5) (svF zh 6))) ze) ze) (zb (zY (zx (zaC hr.units) (zj (svF zh 2) zc) zl (nomark _)) (zb (zbi hu1 (svF zh 0) (zj (svF zh 2) zc) (zk zol (svF zh 5) (svF zh 6))) ze) ze) (zb (zy (svF zh 1)) ze)))))))))))))
theorem zli (Z : Facts K mg cl fa fdd) (C : Fns P w K mg base cl fa fdd k) : FnOk P w K mg base (CX1 P w) (k + 1) (fa 40) (fdd 40) ["_law_count_here", "_law_w", "_law_n"] (spI K cl (callT T (k + 1)) 40) :=
  zas (fn := zjF) rfl Z.F40.F sc_qcount rfl rfl fun cdv A outer s H E hr => have nd := sc_qcount.nd; have hu1 := zaf hr; (zb (zy (zk z6 (zk z6 (zj (svF zcJ 0) zc) (zk zae (zj (svF zcJ 0) zc) (svF zcJ 2))) (zk zae (zk zae (zj (svF zcJ 0) zc) (svF zcJ 1)) (svF zcJ 2)))) ze)
theorem zh3 (Z : Facts K mg cl fa fdd) (C : Fns P w K mg base cl fa fdd k) : FnOk P w K mg base (CX1 P w) (k + 1) (fa 41) (fdd 41) ["_law_told", "_law_w", "_law_n", "_law_most"] (spI K cl (callT T (k + 1)) 41) :=
  zas (fn := zgs) rfl Z.F41.F sc_qunrolled rfl rfl fun cdv A outer s H E hr => have nd := sc_qunrolled.nd; have hu1 := zaf hr; (zb (zC (i := 4) nd rfl (lcF (i := 4) zu rfl) (zht zd)) (zb (zC (i := 5) nd rfl (lcF (i := 5) zu rfl) zc) (zb (zbx own1 rfl (zcN (svF zu 0)) (zao (i := 6) nd rfl (lcF (i := 6) zu rfl)) (zb (zY (zx (zaC hr.units) (zj (svF zu 6) zc) zl (nomark _)) (zb (zeX (zdn (svF zu 4) (zf (C 37 _ rfl) hr zbC Z.F37.m Z.F37.F.kp Z.F37.b (za (zj (svF zu 6) zc) (za zc (za zc (za (svF zu 2) zd))))))) ze) (zb (zbx own1 rfl (zbB zek Z.z_range (zap (zpw rfl) zfo Z.z_min zpK (za (zf (C 40 _ rfl) hr zd9 Z.F40.m Z.F40.F.kp Z.F40.b (za (zj (svF zu 6) zc) (za (svF zu 1) (za (svF zu 2) zd)))) (za zc zd)))) (zao (i := 7) nd rfl (lcF (i := 7) zu rfl)) (zb (znR (i := 5) nd rfl (lcF (i := 5) zu rfl) zc zmo) (zb (zbx own1 rfl (zcN (zj (svF zu 6) zc)) (zao (i := 8) nd rfl (lcF (i := 8) zu rfl)) (zb (zY (zx (zaC hr.units) (zj (svF zu 8) zc) zl (nomark _)) (zb (zeX (zdn (svF zu 4) (zf (C 37 _ rfl) hr zbC Z.F37.m Z.F37.F.kp Z.F37.b (za (zj (svF zu 8) zc) (za (svF zu 7) (za zc (za (svF zu 2) zd))))))) ze) (zb zR ze)) ze)) (zb (zY (PW.pt (zbF (zx zhQ (svF zu 5) zc (nomark _)) (zbz (zx zhQ (zap zaT zcR Z.z_len zaU (za (svF zu 4) zd)) (svF zu 3) (nomark _))))) (zb zR ze) ze) ze)))) ze)) ze)) (zb (zY (zx zhQ (zap zaT zcR Z.z_len zaU (za (svF zu 4) zd)) (svF zu 3) (nomark _)) (zb zR ze) ze) (zb (zy (zpI (svF zu 4))) ze)))))
theorem zgL (Z : Facts K mg cl fa fdd) (C : Fns P w K mg base cl fa fdd k) : FnOk P w K mg base (CX1 P w) (k + 1) (fa 42) (fdd 42) ["_law_rows"] (spI K cl (callT T (k + 1)) 42) :=
  zas (fn := zer) rfl Z.F42.F sc_qrows_right rfl rfl fun cdv A outer s H E hr => have nd := sc_qrows_right.nd; have hu1 := zaf hr; (zb (zbx own1 rfl (zcN (svF zU 0)) (zao (i := 1) nd rfl (lcF (i := 1) zU rfl)) (zb (zbx own1 rfl (zcN (zjQ (svF zU 1) (zhg zc) zhd)) (zao (i := 2) nd rfl (lcF (i := 2) zU rfl)) (zb (zY (PW.pt (zg3 (zaN (zbX (t := .tuple) Z.k_tuple rfl zcD Z.z_isinstance zdF Z.z_tuple zax (svF zU 2))) (zeL (zba (zmT zmE zmE zc (zj (svF zU 2) zc) zc))))) (zb zR ze) ze) ze)) (zb (zY (PW.pt (zg3 (zx (zaC hr.units) (zj (svF zU 1) zc) zl (nomark _)) (zeL (PW.pt (zbF (zx (zaC hr.units) (zj (svF zU 1) zc) (zj (svF zU 1) zc) (nomark _)) (zbz (zx zgF (zj (zj (svF zU 1) zc) zc) zl (by with_unfolding_all rfl)))))))) (zb zR ze) ze) (zb (zY (PW.pt (zg3 (zx zmA (zj (svF zU 1) zc) (zw (za zl (za zl zd))) (by with_unfolding_all rfl)) (zeL (zx zgF (zj (zj (svF zU 1) zc) zc) zl (by with_unfolding_all rfl))))) (zb zR ze) ze) ze)))) (zb (zy zns) ze))
theorem zlB (Z : Facts K mg cl fa fdd) (C : Fns P w K mg base cl fa fdd k) : FnOk P w K mg base (CX1 P w) (k + 1) (fa 43) (fdd 43) ["_law_w", "_law_n", "_law_x", "_law_y"] (spI K cl (callT T (k + 1)) 43) :=
  zas (fn := zfK) rfl Z.F43.F sc_qbegun rfl rfl fun cdv A outer s H E hr => have nd := sc_qbegun.nd; have hu1 := zaf hr; (zb (zC (i := 4) nd rfl (lcF (i := 4) zaa rfl) zla) (zb (zbx own1 rfl (zi8 zcl Z.z_enumerate (zf (C 26 _ rfl) hr zcT Z.F26.m Z.F26.F.kp Z.F26.b (za (svF zaa 2) (za (svF zaa 0) (za (svF zaa 1) zd))))) (zfk rfl (zaD (i := 5) nd rfl (lcF (i := 5) zaa rfl) (zaD (i := 6) nd rfl (lcF (i := 6) zaa rfl) zdi))) (zb (zbi hu1 (svF zaa 4) (zw (za zl (za (svF zaa 5) zd))) (svF zaa 6)) ze)) (zb (zbx own1 rfl (zi8 zcl Z.z_enumerate (zf (C 26 _ rfl) hr zcT Z.F26.m Z.F26.F.kp Z.F26.b (za (svF zaa 3) (za (svF zaa 0) (za (svF zaa 1) zd))))) (zfk rfl (zaD (i := 5) nd rfl (lcF (i := 5) zaa rfl) (zaD (i := 6) nd rfl (lcF (i := 6) zaa rfl) zdi))) (zb (zbi hu1 (svF zaa 4) (zw (za zl (za (svF zaa 5) zd))) (svF zaa 6)) ze)) (zb (zy (svF zaa 4)) ze))))
theorem zog (Z : Facts K mg cl fa fdd) (C : Fns P w K mg base cl fa fdd k) : FnOk P w K mg base (CX1 P w) (k + 1) (fa 44) (fdd 44) ["_law_told", "_law_w", "_law_n", "_law_x", "_law_y"] (spI K cl (callT T (k + 1)) 44) :=
  zas (fn := f_qrun) rfl Z.F44.F sc_qrun rfl rfl fun cdv A outer s H E hr => have nd := sc_qrun.nd; have hu1 := zaf hr; (zb (zY (zba (zaN (zf (C 35 _ rfl) hr zdU Z.F35.m Z.F35.F.kp Z.F35.b (za (svF zak 0) zd)))) (zb zR ze) ze) (zb (zC (i := 5) nd rfl (lcF (i := 5) zak rfl) (zf (C 41 _ rfl) hr zeJ Z.F41.m Z.F41.F.kp Z.F41.b (za (svF zak 0) (za (svF zak 1) (za (svF zak 2) (za zc zd)))))) (zb (zY (PW.pt (zbF (zx zqj (svF zak 5) zn2 (nomark _)) (zbz (zba (zaN (zf (C 42 _ rfl) hr zea Z.F42.m Z.F42.F.kp Z.F42.b (za (svF zak 5) zd))))))) (zb zR ze) ze) (zb (zC (i := 6) nd rfl (lcF (i := 6) zak rfl) (zf (C 43 _ rfl) hr zgz Z.F43.m Z.F43.F.kp Z.F43.b (za (svF zak 1) (za (svF zak 2) (za (svF zak 3) (za (svF zak 4) zd)))))) (zb (zC (i := 7) nd rfl (lcF (i := 7) zak rfl) (zf (C 25 _ rfl) hr zge Z.F25.m Z.F25.F.kp Z.F25.b (za (svF zak 1) zd))) (zb (zC (i := 8) nd rfl (lcF (i := 8) zak rfl) zc) (zb (zbx own1 rfl (zcN (svF zak 5)) (zao (i := 9) nd rfl (lcF (i := 9) zak rfl)) (zb (zC (i := 8) nd rfl (lcF (i := 8) zak rfl) (zf (C 39 _ rfl) hr zhr Z.F39.m Z.F39.F.kp Z.F39.b (za (svF zak 6) (za (svF zak 8) (za (svF zak 9) (za (svF zak 7) zd)))))) ze)) (zb (zy (svF zak 6)) ze))))))))
theorem zmz (Z : Facts K mg cl fa fdd) (C : Fns P w K mg base cl fa fdd k) : FnOk P w K mg base (CX1 P w) (k + 1) (fa 45) (fdd 45) ["_law_cells", "_law_letter_here", "_law_many", "_law_w"] (spI K cl (callT T (k + 1)) 45) :=
  zas (fn := zhl) rfl Z.F45.F sc_qread rfl rfl fun cdv A outer s H E hr => have nd := sc_qread.nd; have hu1 := zaf hr; (zb (zC (i := 4) nd rfl (lcF (i := 4) zbg rfl) (zf (C 25 _ rfl) hr zfu Z.F25.m Z.F25.F.kp Z.F25.b (za (svF zbg 3) zd))) (zb (zC (i := 5) nd rfl (lcF (i := 5) zbg rfl) zc) (zb (zbx own1 rfl (zlr zgA Z.z_range (zk zcs (svF zbg 2) zc) (zfj zc)) (zao (i := 6) nd rfl (lcF (i := 6) zbg rfl)) (zb (zC (i := 5) nd rfl (lcF (i := 5) zbg rfl) (zk z6 (zk zae (svF zbg 5) (svF zbg 4)) (zee hu1 (svF zbg 0) (zw (za (svF zbg 1) (za (svF zbg 6) zd))) zc))) ze)) (zb (zy (svF zbg 5)) ze))))
theorem zkW (Z : Facts K mg cl fa fdd) (C : Fns P w K mg base cl fa fdd k) : FnOk P w K mg base (CX1 P w) (k + 1) (fa 46) (fdd 46) ["_law_cells"] (spI K cl (callT T (k + 1)) 46) :=
  zas (fn := zfD) rfl Z.F46.F sc_qmarks rfl rfl fun cdv A outer s H E hr => have nd := sc_qmarks.nd; have hu1 := zaf hr; (zb (zy (zeR zfE zf4 Z.z_tuple zax (za (zd2 rfl (compOk (NC := ["_law_k", "_law_cells"]) (slots := [none, some 0]) ["_law_cells"] (defScope zbe) rfl rfl rfl (by decide +kernel) (by decide +kernel) (by decide +kernel) (by decide +kernel) rfl) (by decide) (zbB zf1 Z.z_range zc) (fun j => zdV rfl (zao (i := 0) (show (["_law_k", "_law_cells"] : List Str).Nodup by decide +kernel) rfl (by first | exact Or.inl rfl | exact Or.inr rfl))) (fun j => zcO) (fun j => zdW rfl (zee hu1 (sv 1) (zw (za zl (za (sv 0) zd))) zc))) zd))) ze)
theorem zgO (Z : Facts K mg cl fa fdd) (C : Fns P w K mg base cl fa fdd k) : FnOk P w K mg base (CX1 P w) (k + 1) (fa 47) (fdd 47) ["_law_deed", "_law_w", "_law_n", "_law_x", "_law_y"] (spI K cl (callT T (k + 1)) 47) :=
  zas (fn := zce) rfl Z.F47.F sc_qwords_told rfl rfl fun cdv A outer s H E hr => have nd := sc_qwords_told.nd; have hu1 := zaf hr; (zb (zC (i := 5) nd rfl (lcF (i := 5) zW rfl) (zf (C 44 _ rfl) hr zdT Z.F44.m Z.F44.F.kp Z.F44.b (za (zf (C 16 _ rfl) hr zc2 Z.F16.m Z.F16.F.kp Z.F16.b (za (svF zW 0) zd)) (za (svF zW 1) (za (svF zW 2) (za (svF zW 3) (za (svF zW 4) zd))))))) (zb (zY (zx zqj (svF zW 5) zn2 (nomark _)) (zb zR ze) ze) (zb (zy (zw (za (zf (C 45 _ rfl) hr zdD Z.F45.m Z.F45.F.kp Z.F45.b (za (svF zW 5) (za zl (za (svF zW 2) (za (svF zW 1) zd))))) (za (zj (zf (C 46 _ rfl) hr zdp Z.F46.m Z.F46.F.kp Z.F46.b (za (svF zW 5) zd)) zc) zd)))) ze)))
theorem zpk (Z : Facts K mg cl fa fdd) (C : Fns P w K mg base cl fa fdd k) : FnOk P w K mg base (CX1 P w) (k + 1) (fa 48) (fdd 48) ["_law_script"] (spI K cl (callT T (k + 1)) 48) :=
  zas (fn := zna) rfl Z.F48.F sc_law rfl rfl fun cdv A outer s H E hr => have nd := sc_law.nd; have hu1 := zaf hr; (zb (zC (i := 1) nd rfl (lcF (i := 1) zF rfl) (zf (C 19 _ rfl) hr zhD Z.F19.m Z.F19.F.kp Z.F19.b (za (svF zF 0) zd))) (zb (zgk (zf (C 23 _ rfl) hr zho Z.F23.m Z.F23.F.kp Z.F23.b (za (svF zF 1) (za zc zd))) (zfk rfl (zaD (i := 2) nd rfl (lcF (i := 2) zF rfl) (zaD (i := 3) nd rfl (lcF (i := 3) zF rfl) zdi)))) (zb (zC (i := 4) nd rfl (lcF (i := 4) zF rfl) (zf (C 24 _ rfl) hr zeG Z.F24.m Z.F24.F.kp Z.F24.b (za (svF zF 1) (za (svF zF 2) (za (svF zF 3) zd))))) (zb (zC (i := 5) nd rfl (lcF (i := 5) zF rfl) (zf (C 24 _ rfl) hr zeG Z.F24.m Z.F24.F.kp Z.F24.b (za (svF zF 1) (za (svF zF 2) (za (svF zF 3) zd))))) (zb (zgk (zf (C 47 _ rfl) hr zQ Z.F47.m Z.F47.F.kp Z.F47.b (za (zw (za zl zd)) (za (svF zF 2) (za (svF zF 3) (za (svF zF 4) (za (svF zF 5) zd)))))) (zfk rfl (zaD (i := 6) nd rfl (lcF (i := 6) zF rfl) (zaD (i := 7) nd rfl (lcF (i := 7) zF rfl) zdi)))) (zb (zY (PW.pt (zbF (zx zfv (svF zF 6) zc (nomark _)) (zbz (zx (zdX hr.units) (zf (C 47 _ rfl) hr zQ Z.F47.m Z.F47.F.kp Z.F47.b (za (zw (za zl zd)) (za (svF zF 2) (za (svF zF 3) (za (svF zF 6) (za (svF zF 5) zd)))))) (zw (za (svF zF 4) (za (svF zF 7) zd))) (nomark _))))) (zb zR ze) ze) (zb (zgk (zf (C 47 _ rfl) hr zQ Z.F47.m Z.F47.F.kp Z.F47.b (za (zw (za zl zd)) (za (svF zF 2) (za (svF zF 3) (za (svF zF 4) (za (svF zF 5) zd)))))) (zfk rfl (zaD (i := 8) nd rfl (lcF (i := 8) zF rfl) (zaD (i := 9) nd rfl (lcF (i := 9) zF rfl) zdi)))) (zb (zY (PW.pt (zbF (zx zfv (svF zF 8) zc (nomark _)) (zbz (zx (zdX hr.units) (zf (C 47 _ rfl) hr zQ Z.F47.m Z.F47.F.kp Z.F47.b (za (zw (za zl zd)) (za (svF zF 2) (za (svF zF 3) (za (svF zF 8) (za (svF zF 5) zd)))))) (zw (za (svF zF 4) (za (svF zF 9) zd))) (nomark _))))) (zb zR ze) ze) (zb (zgk (zf (C 47 _ rfl) hr zQ Z.F47.m Z.F47.F.kp Z.F47.b (za (zw (za zl zd)) (za (svF zF 2) (za (svF zF 3) (za (svF zF 4) (za zc zd)))))) (zfk rfl (zaD (i := 10) nd rfl (lcF (i := 10) zF rfl) (zaD (i := 11) nd rfl (lcF (i := 11) zF rfl) zdi)))) (zb (zgk (zf (C 47 _ rfl) hr zQ Z.F47.m Z.F47.F.kp Z.F47.b (za (zw (za zl zd)) (za (svF zF 2) (za (svF zF 3) (za (svF zF 4) (za zc zd)))))) (zfk rfl (zaD (i := 12) nd rfl (lcF (i := 12) zF rfl) (zaD (i := 13) nd rfl (lcF (i := 13) zF rfl) zdi)))) (zb (zY (PW.pt (zbF (zx zfv (svF zF 10) zc (nomark _)) (zbF (zx zfv (svF zF 12) zc (nomark _)) (zbF (zx (zdX hr.units) (svF zF 13) zc (nomark _)) (zbz (zx (zdX hr.units) (zf (C 47 _ rfl) hr zQ Z.F47.m Z.F47.F.kp Z.F47.b (za (zw (za zl zd)) (za (svF zF 2) (za (svF zF 3) (za (svF zF 10) (za zc zd)))))) (zw (za (svF zF 4) (za (svF zF 11) zd))) (nomark _))))))) (zb zR ze) ze) (zb (zY (zx (zdX hr.units) (zf (C 47 _ rfl) hr zQ Z.F47.m Z.F47.F.kp Z.F47.b (za (zw (za zl zd)) (za (svF zF 2) (za (svF zF 3) (za (svF zF 12) (za zc zd)))))) (zw (za (svF zF 4) (za zc zd))) (nomark _)) (zb zR ze) ze) (zb (zy (zbw (zaC hr.units) (zj (zf (C 47 _ rfl) hr zQ Z.F47.m Z.F47.F.kp Z.F47.b (za (zw (za zl zd)) (za (svF zF 2) (za (svF zF 3) (za (svF zF 12) (za zc zd)))))) zc) (svF zF 10) (nomark _))) ze)))))))))))))
end
end WK
namespace IC
open PySem
def forB (call : Cl) (t : Tg) (b : Css) (xs : List PV) (ρ : Env) (st : Store) : Fl := forL t (fun ρ2 st2 => exs call ρ2 st2 b) xs ρ st
def whileB (call : Cl) (c : Ce) (b : Css) (n : Nat) (ρ : Env) (st : Store) : Fl := whileL (fun ρ2 st2 => ev call ρ2 st2 c) (fun ρ2 st2 => exs call ρ2 st2 b) n ρ st
def oneB (call : Cl) (ρ0 : Env) (t : Tg) (c e : Ce) (x : PV) (st2 : Store) : R (Option PV) := match bindT t x ρ0 with
  | none => .bad
  | some ρ1 => (ev call ρ1 st2 c).bind fun b st3 => onO (truV st3 b) fun k => cond k ((ev call ρ1 st3 e).bind fun y st4 => .ok (some y) st4) (.ok none st3)
def compB (call : Cl) (ρ0 : Env) (t : Tg) (c e : Ce) (xs : List PV) (st : Store) : R (List PV) := compL (oneB call ρ0 t c e) xs st
def thenF (f : Fl) (k : Env -> Store -> Fl) : Fl :=
  match f with
  | .nx ρ st => k ρ st
  | f => f
def nxO (o : Option Env) (st : Store) : Fl :=
  match o with
  | some ρ => .nx ρ st
  | none => .bad
def stO (ρ : Env) (o : Option Store) : Fl :=
  match o with
  | some st => .nx ρ st
  | none => .bad
section
variable {call : Cl} {ρ : Env} {st : Store}
theorem zgw {t : Tg} {it : Cit} {b : Css} : ex call ρ st (.for t it b) = (evi call ρ st it).fl ρ fun xs st1 => forB call t b xs ρ st1 := by rw [ex]; rfl
theorem zoZ {c : Ce} {b : Css} : ex call ρ st (.while c b) = whileB call c b 100000 ρ st := by rw [ex]; rfl
theorem zpc {sl : List (Option Nat)} {t : Tg} {it : Cit} {c e : Ce} : ev call ρ st (.comp sl t it c e) = (evi call ρ st it).bind fun xs st1 => lstR (compB call (sl.map fun o => o.bind fun j => (ρ[j]?).join) t c e xs st1) := by rw [ev]; rfl
theorem zcy {t : Tg} {b : Css} : forB call t b [] ρ st = .nx ρ st := by rw [forB, forL]
theorem zcp {t : Tg} {b : Css} {x : PV} {xs : List PV} {ρ1 : Env} (h : bindT t x ρ = some ρ1) : forB call t b (x :: xs) ρ st = againF (exs call ρ1 st b) fun ρ2 st2 => forB call t b xs ρ2 st2 := by
  rw [forB, forL, h]; rfl
theorem zhu {t : Tg} {b : Css} (P : Nat -> Env -> Store -> Prop) : ∀ (xs : List PV) (i : Nat) (ρ : Env) (st : Store), P i ρ st ->
    (∀ (j : Nat) (x : PV) (ρ : Env) (st : Store), xs[j]? = some x -> P (i + j) ρ st -> ∃ ρ1 ρ2 st2, bindT t x ρ = some ρ1 /\ exs call ρ1 st b = .nx ρ2 st2 /\ P (i + j + 1) ρ2 st2) ->
    ∃ ρ' st', forB call t b xs ρ st = .nx ρ' st' /\ P (i + xs.length) ρ' st'
  | [], i, ρ, st, h, _ => ⟨ρ, st, zcy, h⟩
  | x :: xs, i, ρ, st, h, k => by
    obtain ⟨ρ1, ρ2, st2, e1, e2, h2⟩ := k 0 x ρ st rfl h
    obtain ⟨ρ', st', e3, h3⟩ := zhu P xs (i + 1) ρ2 st2 h2 fun j y ρ st hy hp => by
      have := k (j + 1) y ρ st (by simpa using hy) (by rw [show i + (j + 1) = i + 1 + j by omega]; exact hp)
      rw [show i + (j + 1) + 1 = i + 1 + j + 1 by omega] at this
      exact this
    refine ⟨ρ', st', ?_, by rw [List.length_cons, show i + (xs.length + 1) = i + 1 + xs.length by omega]; exact h3⟩
    rw [zcp e1, e2]
    exact e3
theorem zlS {c : Ce} {b : Css} {n : Nat} {x : PV} {st1 st2 : Store} {ρ2 : Env} (h : ev call ρ st c = .ok x st1) (ht : truV st1 x = some true) (hb : exs call ρ st1 b = .nx ρ2 st2) : whileB call c b (n + 1) ρ st = whileB call c b n ρ2 st2 := by
  rw [whileB, whileL, h]
  simp only [R.fl, ht, onF, cond_true, hb, againF]
  rfl
theorem zi2 {c : Ce} {b : Css} {n : Nat} {x : PV} {st1 : Store} (h : ev call ρ st c = .ok x st1) (ht : truV st1 x = some false) : whileB call c b (n + 1) ρ st = .nx ρ st1 := by
  rw [whileB, whileL, h]
  simp only [R.fl, ht, onF, cond_false]
theorem zlE {ρ0 : Env} {t : Tg} {c e : Ce} : compB call ρ0 t c e [] st = .ok [] st := by rw [compB, compL]
theorem zkE {ρ0 : Env} {t : Tg} {c e : Ce} {x : PV} {xs : List PV} : compB call ρ0 t c e (x :: xs) st = (oneB call ρ0 t c e x st).bind fun o st1 => (compB call ρ0 t c e xs st1).bind fun ys st2 => .ok (consO o ys) st2 := by
  rw [compB, compL]; rfl
theorem zil {ρ0 : Env} {t : Tg} {c e : Ce} {f : PV -> PV} : ∀ (xs : List PV), (∀ x ∈ xs, oneB call ρ0 t c e x st = .ok (some (f x)) st) -> compB call ρ0 t c e xs st = .ok (xs.map f) st
  | [], _ => zlE
  | x :: xs, h => by
    rw [zkE, h x List.mem_cons_self]
    simp only [R.bind]
    rw [zil xs fun y hy => h y (List.mem_cons_of_mem _ hy)]
    rfl
theorem xs_nil : exs call ρ st .nil = .nx ρ st := by rw [exs]
theorem xs_cons {s : Cs} {ss : Css} : exs call ρ st (.cons s ss) = thenF (ex call ρ st s) fun ρ1 st1 => exs call ρ1 st1 ss := by
  rw [exs]
  cases ex call ρ st s <;> rfl
theorem x_asg {t : Tg} {e : Ce} : ex call ρ st (.asg t e) = (ev call ρ st e).fl ρ fun v st1 => nxO (bindT t v ρ) st1 := by
  rw [ex]
  refine congrArg _ (funext fun v => funext fun st1 => ?_)
  cases bindT t v ρ <;> rfl
theorem zjl {e : Ce} : ex call ρ st (.expr e) = (ev call ρ st e).fl ρ fun _ st1 => .nx ρ st1 := by rw [ex]
theorem x_ret {e : Ce} : ex call ρ st (.ret e) = (ev call ρ st e).fl ρ fun v st1 => .rt v st1 := by rw [ex]
theorem x_ite {c : Ce} {a b : Css} : ex call ρ st (.ite c a b) = (ev call ρ st c).fl ρ fun x st1 => onF (truV st1 x) fun k => cond k (exs call ρ st1 a) (exs call ρ st1 b) := by rw [ex]
theorem ziq {o i e : Ce} : ex call ρ st (.six o i e) = (ev call ρ st e).fl ρ fun v st1 => (ev call ρ st1 o).fl ρ fun x st2 => (ev call ρ st2 i).fl ρ fun y st3 => stO ρ (sixV st3 x y v) := by
  rw [ex]
  refine congrArg _ (funext fun v => funext fun st1 => congrArg _ (funext fun x => funext fun st2 => congrArg _ (funext fun y => funext fun st3 => ?_)))
  cases sixV st3 x y v <;> rfl
theorem x_dput {o i e : Ce} : ex call ρ st (.dput o i e) = (ev call ρ st e).fl ρ fun v st1 => (ev call ρ st1 o).fl ρ fun x st2 => (ev call ρ st2 i).fl ρ fun y st3 => stO ρ (dputV st3 x y v) := by
  rw [ex]
  refine congrArg _ (funext fun v => funext fun st1 => congrArg _ (funext fun x => funext fun st2 => congrArg _ (funext fun y => funext fun st3 => ?_)))
  cases dputV st3 x y v <;> rfl
theorem zqo {i : Nat} {o : BOp} {e : Ce} {x : PV} (h : ρ[i]? = some (some x)) : ex call ρ st (.aug i o e) = (ev call ρ st e).fl ρ fun y st1 => nxO ((augV o x y).map fun z => ρ.set i (some z)) st1 := by
  rw [ex, h]
  show (ev call ρ st e).fl ρ _ = _
  refine congrArg _ (funext fun y => funext fun st1 => ?_)
  cases augV o x y <;> rfl
end
end IC
namespace WK
open IC PySem
mutual
def pvq : PV -> PV -> Bool
  | .non, .non => true
  | .bl a, .bl b => a == b
  | .int i, .int j => decide (i = j)
  | .str x, .str y => decide (x = y)
  | .tp k xs, .tp l ys => (k == l) && pvqs xs ys
  | .lst xs, .lst ys => pvqs xs ys
  | _, _ => false
def pvqs : List PV -> List PV -> Bool
  | [], [] => true
  | x :: xs, y :: ys => pvq x y && pvqs xs ys
  | _, _ => false
end
mutual
theorem zoc : ∀ (a b : PV), pvq a b = true -> a = b
  | .non, b, h => by cases b <;> simp [pvq] at h ⊢
  | .bl a, b, h => by cases b <;> simp [pvq] at h ⊢; exact h
  | .int a, b, h => by cases b <;> simp [pvq] at h ⊢; exact h
  | .str a, b, h => by cases b <;> simp [pvq] at h ⊢; exact h
  | .tp k xs, b, h => by
    cases b <;> simp [pvq] at h ⊢
    exact ⟨h.1, zi3 _ _ h.2⟩
  | .lst xs, b, h => by
    cases b <;> simp [pvq] at h ⊢
    exact zi3 _ _ h
  | .loc _, b, h => by cases b <;> simp [pvq] at h
  | .exn _, b, h => by cases b <;> simp [pvq] at h
  | .scr _, b, h => by cases b <;> simp [pvq] at h
theorem zi3 : ∀ (a b : List PV), pvqs a b = true -> a = b
  | [], b, h => by cases b <;> simp [pvqs] at h ⊢
  | x :: xs, b, h => by
    cases b with
    | nil => simp [pvqs] at h
    | cons y ys =>
      simp [pvqs] at h
      rw [zoc x y h.1, zi3 xs ys h.2]
end
def isOk (r : R PV) (v : PV) : Bool := match r with
  | .ok w [] => pvq w v
  | _ => false
theorem zb1 {r : R PV} {v : PV} (h : isOk r v = true) : r = .ok v [] := by
  match r with
  | .ok w [] => rw [zoc w v h]
  | .ok w (_ :: _) => simp [isOk] at h
  | .exc _ _ => simp [isOk] at h
  | .bad => simp [isOk] at h
def valR (r : R PV) : PV := match r with
  | .ok w _ => w
  | _ => .non
def isOk0 (r : R PV) : Bool := match r with
  | .ok _ [] => true
  | _ => false
theorem zfJ {r : R PV} (h : isOk0 r = true) : r = .ok (valR r) [] := by
  match r with
  | .ok w [] => rfl
  | .ok w (_ :: _) => simp [isOk0] at h
  | .exc _ _ => simp [isOk0] at h
  | .bad => simp [isOk0] at h
def chS (c : Nat) : Str := ⟨#[c]⟩
def cellV (c : Nat) (i : Int) : PV := .tup [.str (chS c), .int i]
theorem zo3 {c d : Nat} (h : chS c = chS d) : c = d := by
  have := congrArg (fun x => x.cps) h
  simpa [chS] using this
theorem zdx (c d : Nat) (i j : Int) : peq (cellV c i) (cellV d j) = decide (c = d /\ i = j) := by
  have h : (chS c == chS d) = decide (c = d) := by
    rw [Bool.eq_iff_iff]
    simp
    exact ⟨zo3, fun e => by rw [e]⟩
  simp [cellV, peq, peqs, h, Bool.decide_and]
  try rfl
abbrev Mem := Nat -> Int -> Int
def upd (M : Mem) (c : Nat) (i v : Int) : Mem := fun d j => if d = c /\ j = i then v else M d j
def AllC (kvs : List (PV × PV)) : Prop := ∀ p ∈ kvs, ∃ c i, p.1 = cellV c i
def Rel (kvs : List (PV × PV)) (M : Mem) : Prop := ∀ c i, (look (cellV c i) kvs).getD (.int 0) = .int (M c i)
theorem zjw (c : Nat) (i : Int) (v : PV) (d : Nat) (j : Int) : ∀ kvs, AllC kvs -> look (cellV d j) (kvs.map fun p => if peq p.1 (cellV c i) = true then (p.1, v) else p) = if d = c /\ j = i then (if (kvs.any fun p => peq p.1 (cellV c i)) = true then some v else none) else look (cellV d j) kvs
  | [], _ => by simp [look]
  | p :: kvs, h => by
    obtain ⟨e, g, hp⟩ := h p List.mem_cons_self
    obtain ⟨p1, p2⟩ := p
    simp only at hp
    subst hp
    have ih := zjw c i v d j kvs fun q hq => h q (List.mem_cons_of_mem _ hq)
    rw [List.map_cons, List.any_cons]
    simp only [zdx]
    by_cases h1 : e = c /\ g = i
    · obtain ⟨rfl, rfl⟩ := h1
      simp only [and_self, decide_true, if_true, look, zdx, Bool.true_or]
      by_cases h2 : e = d /\ g = j
      · obtain ⟨rfl, rfl⟩ := h2
        simp
      · have h3 : ¬ (d = e /\ j = g) := fun z => h2 ⟨z.1.symm, z.2.symm⟩
        simp only [h2, h3, decide_false, if_false, Bool.false_eq_true]
        rw [ih, if_neg h3]
    · simp only [h1, decide_false, Bool.false_or, Bool.false_eq_true, if_false]
      rw [look, look]
      simp only [zdx]
      by_cases h2 : e = d /\ g = j
      · obtain ⟨rfl, rfl⟩ := h2
        simp [h1]
      · simp only [h2, decide_false, Bool.false_eq_true, if_false]
        exact ih
theorem zjD (c : Nat) (i : Int) (v : PV) (d : Nat) (j : Int) : ∀ kvs, AllC kvs -> (kvs.any fun p => peq p.1 (cellV c i)) = false -> look (cellV d j) (kvs ++ [(cellV c i, v)]) = if d = c /\ j = i then some v else look (cellV d j) kvs
  | [], _, _ => by
    simp only [List.nil_append, look, zdx]
    by_cases h2 : c = d /\ i = j
    · obtain ⟨rfl, rfl⟩ := h2; simp
    · have h3 : ¬ (d = c /\ j = i) := fun z => h2 ⟨z.1.symm, z.2.symm⟩
      simp [h2, h3]
  | p :: kvs, h, hn => by
    obtain ⟨e, g, hp⟩ := h p List.mem_cons_self
    obtain ⟨p1, p2⟩ := p
    simp only at hp
    subst hp
    rw [List.any_cons, Bool.or_eq_false_iff] at hn
    have ih := zjD c i v d j kvs (fun q hq => h q (List.mem_cons_of_mem _ hq)) hn.2
    have h1 : ¬ (e = c /\ g = i) := by simpa [zdx] using hn.1
    rw [List.cons_append, look, look]
    simp only [zdx]
    by_cases h2 : e = d /\ g = j
    · obtain ⟨rfl, rfl⟩ := h2
      simp [h1]
    · simp only [h2, decide_false, Bool.false_eq_true, if_false]
      exact ih
theorem zmI (c : Nat) (i : Int) (v : PV) (d : Nat) (j : Int) (kvs : List (PV × PV)) (h : AllC kvs) : look (cellV d j) (put (cellV c i) v kvs) = if d = c /\ j = i then some v else look (cellV d j) kvs := by
  unfold put
  split
  · rename_i z
    rw [zjw _ _ _ _ _ _ h, z, if_pos rfl]
  · rename_i z
    exact zjD _ _ _ _ _ _ h (by simpa using z)
theorem zmS {c : Nat} {i : Int} {v : PV} {kvs : List (PV × PV)} (h : AllC kvs) : AllC (put (cellV c i) v kvs) := by
  unfold put
  split
  · intro p hp
    obtain ⟨q, hq, rfl⟩ := List.mem_map.1 hp
    obtain ⟨e, g, he⟩ := h q hq
    refine ⟨e, g, ?_⟩
    split
    · exact he
    · exact he
  · intro p hp
    rcases List.mem_append.1 hp with hp | hp
    · exact h p hp
    · simp at hp
      exact ⟨c, i, by rw [hp]⟩
theorem zoY {c : Nat} {i v : Int} {kvs : List (PV × PV)} {M : Mem} (h : AllC kvs) (r : Rel kvs M) : Rel (put (cellV c i) (.int v) kvs) (upd M c i v) := by
  intro d j
  rw [zmI _ _ _ _ _ _ h]
  unfold upd
  split
  · rfl
  · exact r d j
theorem zo1 {k v : PV} {kvs : List (PV × PV)} : (put k v kvs).length <= kvs.length + 1 := by
  unfold put
  split
  · simp
  · simp
theorem zju (c : Nat) (i : Int) : isKey true (cellV c i) = true := rfl
structure Dc (st : Store) (n : Nat) (M : Mem) (L : Nat) : Prop where
  ex : ∃ kvs, st[n]? = some (.dct true kvs) /\ AllC kvs /\ Rel kvs M /\ kvs.length <= L
theorem zaF {st : Store} {n L : Nat} {M : Mem} (h : Dc st n M L) (c : Nat) (i : Int) : getV st (.loc n) (cellV c i) (.int 0) = .ok (.int (M c i)) st := by
  obtain ⟨kvs, h1, h2, h3, h4⟩ := h
  simp only [getV, dctOf, h1, zju, if_true, h3 c i]
theorem zbu {st : Store} {n L : Nat} {M : Mem} (h : Dc st n M L) (hL : L < 999999) (c : Nat) (i v : Int) : ∃ kvs, dputV st (.loc n) (cellV c i) (.int v) = some (st.set n (.dct true kvs)) /\ Dc (st.set n (.dct true kvs)) n (upd M c i v) (L + 1) := by
  obtain ⟨kvs, h1, h2, h3, h4⟩ := h
  have hn : n < st.length := by
    rcases Nat.lt_or_ge n st.length with z | z
    · exact z
    · rw [List.getElem?_eq_none z] at h1; cases h1
  refine ⟨put (cellV c i) (.int v) kvs, ?_, ⟨_, List.getElem?_set_self hn, zmS h2, zoY h2 h3, Nat.le_trans zo1 (by omega)⟩⟩
  have h5 : kvs.length < 1000000 := by omega
  simp only [dputV, h1, zju, h5, and_self, if_true]
abbrev Cel := Nat × Int
def celV (x : Cel) : PV := cellV x.1 x.2
inductive Rw where
  | mark (d : Int) | ask (x : Cel) | set (t : Cel) (d : Int) | move (t x : Cel) | bare (t x : Cel) | twice (t x : Cel) | half (t x : Cel)
  | sum (t x y : Cel) | less (t x y : Cel) | both (t x y : Cel) | any (t x y : Cel) | odd (t x y : Cel)
def rowV : Rw -> PV
  | .mark d => .tup [.str (Str.ofString "mark"), .int d]
  | .ask x => .tup [.str (Str.ofString "ask"), celV x]
  | .set t d => .tup [.str (Str.ofString "set"), celV t, .int d]
  | .move t x => .tup [.str (Str.ofString "move"), celV t, celV x]
  | .bare t x => .tup [.str (Str.ofString "bare"), celV t, celV x]
  | .twice t x => .tup [.str (Str.ofString "twice"), celV t, celV x]
  | .half t x => .tup [.str (Str.ofString "half"), celV t, celV x]
  | .sum t x y => .tup [.str (Str.ofString "sum"), celV t, celV x, celV y]
  | .less t x y => .tup [.str (Str.ofString "less"), celV t, celV x, celV y]
  | .both t x y => .tup [.str (Str.ofString "both"), celV t, celV x, celV y]
  | .any t x y => .tup [.str (Str.ofString "any"), celV t, celV x, celV y]
  | .odd t x y => .tup [.str (Str.ofString "odd"), celV t, celV x, celV y]
def rd (M : Mem) (x : Cel) : Int := M x.1 x.2
def wr (M : Mem) (x : Cel) (v : Int) : Mem := upd M x.1 x.2 v
def stepM (W : Int) (M : Mem) (k : Int) : Rw -> Mem × Int
  | .mark d => (M, d)
  | .ask x => (M, bi (!(rd M x == 0)))
  | .set t d => (wr M t d, k)
  | .move t x => (wr M t (rd M x), k)
  | .bare t x => (wr M t (W - 1 - rd M x), k)
  | .twice t x => (wr M t ((2 * rd M x + k) % W), (2 * rd M x + k) / W)
  | .half t x => (wr M t (rd M x / 2 + k * (W / 2)), rd M x % 2)
  | .sum t x y => (wr M t ((rd M x + rd M y + k) % W), (rd M x + rd M y + k) / W)
  | .less t x y => (wr M t ((rd M x - rd M y - k) % W), bi (decide (rd M x - rd M y - k < 0)))
  | .both t x y => (wr M t (Builtin.bitAnd (rd M x) (rd M y)), k)
  | .any t x y => (wr M t (Builtin.bitOr (rd M x) (rd M y)), k)
  | .odd t x y => (wr M t (Builtin.bitXor (rd M x) (rd M y)), k)
def runM (W : Int) : List Rw -> Mem -> Int -> Mem × Int
  | [], M, k => (M, k)
  | r :: rs, M, k => runM W rs (stepM W M k r).1 (stepM W M k r).2
theorem zbA (W : Int) : ∀ (a b : List Rw) (M : Mem) (k : Int), runM W (a ++ b) M k = runM W b (runM W a M k).1 (runM W a M k).2
  | [], b, M, k => rfl
  | r :: a, b, M, k => by rw [List.cons_append, runM, zbA W a b, runM]
theorem zjN {st : Store} {n : Nat} {o : Ob} (h : st[n]? = some o) : st = st.set n o := by
  refine List.ext_getElem? fun i => ?_
  rw [List.getElem?_set]
  split
  · rename_i e
    subst e
    split
    · exact h
    · rename_i z
      rw [List.getElem?_eq_none (by omega)] at h
      cases h
  · rfl
end WK
namespace WK
open IC PySem
theorem zc8 (i : Int) : shp (.int i) = true := rfl
section
variable {st : Store} {k : Bool} {a b c d e : PV} {r : List PV} {i j : Int}
theorem ix0 : idxV st (.tp k (a :: r)) (.int 0) = some a := by simp [idxV, idxI, at?, ixI]
theorem ix1 : idxV st (.tp k (a :: b :: r)) (.int 1) = some b := by
  have : (1 : Int) < (r.length : Int) + 1 + 1 := by omega
  simp [idxV, idxI, at?, ixI, this]
theorem ix2 : idxV st (.tp k (a :: b :: c :: r)) (.int 2) = some c := by
  have : (2 : Int) < (r.length : Int) + 1 + 1 + 1 := by omega
  simp [idxV, idxI, at?, ixI, this]
theorem ix3 : idxV st (.tp k (a :: b :: c :: d :: r)) (.int 3) = some d := by
  have : (3 : Int) < (r.length : Int) + 1 + 1 + 1 + 1 := by omega
  simp [idxV, idxI, at?, ixI, this]
theorem ix4 : idxV st (.tp k (a :: b :: c :: d :: e :: r)) (.int 4) = some e := by
  have : (4 : Int) < (r.length : Int) + 1 + 1 + 1 + 1 + 1 := by omega
  simp [idxV, idxI, at?, ixI, this]
theorem b_add : binV .add (.int i) (.int j) = some (.int (i + j)) := rfl
theorem b_sub : binV .sub (.int i) (.int j) = some (.int (i - j)) := rfl
theorem zou (h : i.natAbs < 18446744073709551616 \/ j.natAbs < 18446744073709551616) : binV .mul (.int i) (.int j) = some (.int (i * j)) := by
  have : CMulB i j = true := by simpa [CMulB] using h
  simp [binV, binI, this]
theorem zpi (h : i.natAbs < 18446744073709551616) : binV .mul (.int i) (.int j) = some (.int (i * j)) := zou (.inl h)
theorem za8 (h : j.natAbs < 18446744073709551616) : binV .mul (.int i) (.int j) = some (.int (i * j)) := zou (.inr h)
theorem b_mul2 : binV .mul (.int 2) (.int j) = some (.int (2 * j)) := zou (.inl (by decide))
theorem zct (h : 0 < j) (h2 : j < 18446744073709551616 * 18446744073709551616) : binV .fdiv (.int i) (.int j) = some (.int (i / j)) := by
  have h3 : j < 10000000000000000000000000000000000000000000000000000000000000000000000 := by omega
  simp [binV, binI, h, h3]
theorem b_div2 : binV .fdiv (.int i) (.int 2) = some (.int (i / 2)) := rfl
theorem zcu (h : 0 < j) : binV .mod (.int i) (.int j) = some (.int (i % j)) := by simp [binV, binI, h]
theorem b_mod2 : binV .mod (.int i) (.int 2) = some (.int (i % 2)) := rfl
theorem b_and : binV .band (.int i) (.int j) = some (.int (Builtin.bitAnd i j)) := rfl
theorem b_or : binV .bor (.int i) (.int j) = some (.int (Builtin.bitOr i j)) := rfl
theorem b_xor : binV .bxor (.int i) (.int j) = some (.int (Builtin.bitXor i j)) := rfl
theorem toR_some {v : PV} : toR (some v) st = .ok v st := rfl
theorem c_ne : cmpV .ne (.int i) (.int j) = some (.bl (!(i == j))) := by simp [cmpV, zc8, peq]
theorem c_eq : cmpV .eq (.int i) (.int j) = some (.bl (i == j)) := by simp [cmpV, zc8, peq]
theorem c_lt : cmpV .lt (.int i) (.int j) = some (.bl (decide (i < j))) := rfl
theorem c_gt : cmpV .gt (.int i) (.int j) = some (.bl (decide (j < i))) := rfl
theorem t_bl {b : Bool} : truV st (.bl b) = some b := rfl
theorem on_t {f : Bool -> Fl} {b : Bool} : onF (some b) f = f b := rfl
theorem ono {α : Type} {f : Bool -> R α} {b : Bool} : onO (some b) f = f b := rfl
theorem stO_some {ρ : IC.Env} : stO ρ (some st) = .nx ρ st := rfl
theorem nxO_some {ρ : IC.Env} : nxO (some ρ) st = .nx ρ st := rfl
theorem fl_ok {α : Type} {a : α} {ρ : IC.Env} {k : α -> Store -> Fl} : (R.ok a st).fl ρ k = k a st := rfl
theorem bd_ok {α β : Type} {a : α} {k : α -> Store -> R β} : (R.ok a st).bind k = k a st := rfl
theorem th_nx {ρ : IC.Env} {k : IC.Env -> Store -> Fl} : thenF (.nx ρ st) k = k ρ st := rfl
theorem th_rt {v : PV} {k : IC.Env -> Store -> Fl} : thenF (.rt v st) k = .rt v st := rfl
theorem blt_int {x : PV} : bltV .int st [x] = intV x := rfl
theorem int_bl {b : Bool} : intV (.bl b) = some (.int (bi b)) := rfl
theorem bT_n {i : Nat} {v : PV} {ρ : IC.Env} : bindT (.n i) v ρ = some (ρ.set i (some v)) := rfl
theorem mget {o k d : PV} : mthV .get st o [k, d] = getV st o k d := rfl
end
end WK
local macro_rules | `(tactic| simp! [$xs,*]) => `(tactic| simp only [Bool.false_eq_true, IC.ev.eq_1, IC.ev.eq_16, IC.ev.eq_18, IC.ev.eq_19, IC.ev.eq_2, IC.ev.eq_20, IC.ev.eq_3, IC.ev.eq_8, IC.evs, IC.x_asg, IC.x_dput, IC.x_ite, IC.x_ret, IC.xs_cons, IC.xs_nil, List.cons_append, List.getElem?_cons_succ, List.getElem?_cons_zero, List.length_cons, List.length_nil, List.map_cons, List.map_nil, List.nil_append, List.replicate, List.set_cons_succ, List.set_cons_zero, Nat.reduceAdd, Nat.reduceSub, Nat.zero_add, WK.bT_n, WK.b_add, WK.b_and, WK.b_div2, WK.b_mod2, WK.b_mul2, WK.b_or, WK.b_sub, WK.b_xor, WK.bd_ok, WK.blt_int, WK.c_lt, WK.c_ne, WK.fl_ok, WK.int_bl, WK.ix0, WK.ix1, WK.ix2, WK.ix3, WK.mget, WK.nxO_some, WK.on_t, WK.ono, WK.stO_some, WK.t_bl, WK.th_nx, WK.th_rt, WK.toR_some, cond_false, cond_true, if_false, if_true, $xs,*])
local macro_rules | `(tactic| dsimp! [$xs,*]) => `(tactic| simp only [IC.R.bind, IC.R.fl, IC.at?, IC.binI, IC.binV, IC.cmpI, IC.cmpV, IC.ev.eq_1, IC.ev.eq_16, IC.ev.eq_2, IC.ev.eq_3, IC.ev.eq_8, IC.evs, IC.idxI, IC.idxV, IC.ixI, IC.nxO, IC.onF, IC.thenF, IC.toR, IC.truV, IC.x_ite, IC.xs_cons, List.getElem?_cons_succ, List.getElem?_cons_zero, List.set_cons_succ, List.set_cons_zero, $xs,*])
local macro_rules | `(tactic| simp_all! [$xs,*]) => `(tactic| simp only [IC.ev.eq_18, IC.ev.eq_2, IC.evs, IC.x_asg, IC.xs_cons, IC.xs_nil, List.getElem?_cons_succ, List.getElem?_cons_zero, List.length_cons, List.length_nil, List.set_cons_succ, List.set_cons_zero, Nat.reduceAdd, Nat.zero_add, WK.bT_n, WK.bd_ok, WK.fl_ok, WK.nxO_some, WK.th_nx, if_true, $xs,*])
namespace WK
open IC PySem
abbrev cZ : Cel := (122, 0)
abbrev cS : Cel := (115, 0)
abbrev cT : Cel := (116, 0)
def upRows (f : Int -> Rw) : Nat -> List Rw
  | 0 => []
  | n + 1 => upRows f n ++ [f n]
def wordRows (n : Nat) (f : Cel -> Cel -> Cel -> Rw) : List Rw := upRows (fun i => f (99, i) (97, i) (98, i)) n
def endRows (n : Nat) : List Rw := [.set cS 0] ++ upRows (fun i => Rw.any cS cS (99, i)) n ++ [.ask cS, .set (109, 2) 1, .less (109, 2) (109, 2) cZ, .twice cT (99, (n : Int) - 1), .sum (109, 3) cZ cZ]
def loneRows (a b c : Cel) : List Rw := [.odd cT a b, .odd cS a c, .both cT cT cS, .twice cT cT, .sum (109, 1) cZ cZ]
def sumRows (n : Nat) : List Rw := [.mark 0] ++ wordRows n .sum ++ [.sum (109, 0) cZ cZ] ++ loneRows (99, (n : Int) - 1) (97, (n : Int) - 1) (98, (n : Int) - 1) ++ endRows n
def lessRows (n : Nat) : List Rw := [.mark 0] ++ wordRows n .less ++ [.sum (109, 0) cZ cZ] ++ loneRows (97, (n : Int) - 1) (98, (n : Int) - 1) (99, (n : Int) - 1) ++ endRows n
def turnRows (n : Nat) : List Rw := [.mark 0] ++ upRows (fun i => .less (99, i) cZ (97, i)) n ++ [.sum (109, 0) cZ cZ] ++ loneRows cZ (97, (n : Int) - 1) (99, (n : Int) - 1) ++ endRows n
def bareRows (n : Nat) : List Rw := upRows (fun i => .bare (99, i) (97, i)) n ++ endRows n
def compRows (n : Nat) : List Rw := lessRows n ++ [.odd (109, 1) (109, 1) (109, 3), .set (109, 3) 0]
def pairRows (f : Cel -> Cel -> Cel -> Rw) (n : Nat) : List Rw := wordRows n f ++ endRows n
def wordsL (W : Int) : Nat -> Int -> List Int
  | 0, _ => []
  | n + 1, x => x % W :: wordsL W n (x / W)
theorem zbo (W : Int) : ∀ n x, (wordsL W n x).length = n
  | 0, _ => rfl
  | n + 1, x => by rw [wordsL, List.length_cons, zbo]
def fillM (c : Nat) : Nat -> List Int -> Mem -> Mem
  | _, [], M => M
  | i, v :: vs, M => fillM c (i + 1) vs (upd M c i v)
def M0 : Mem := fun _ _ => 0
def begM (W : Int) (n : Nat) (x y : Int) : Mem := fillM 98 0 (wordsL W n y) (fillM 97 0 (wordsL W n x) M0)
def valM (W : Int) (M : Mem) (c : Nat) : Nat -> Int
  | 0 => 0
  | n + 1 => valM W M c n + M c n * W ^ n
end WK
namespace WK
open IC PySem
theorem zpF : ∀ (n x y : Nat), x <= n -> (x ^^^ y) + (x &&& y) = x ||| y
  | n, x, y, h => by
    by_cases hx : x = 0
    · subst hx; simp
    · have ih := zpF (n - 1) (x / 2) (y / 2) (by omega)
      rw [<- Nat.xor_div_two, <- Nat.and_div_two, <- Nat.or_div_two] at ih
      have m1 : (x ^^^ y) % 2 = ((x % 2) ^^^ (y % 2)) := by
        have := Nat.xor_mod_two_pow (a := x) (b := y) (n := 1); simpa using this
      have m2 : (x &&& y) % 2 = ((x % 2) &&& (y % 2)) := by
        have := Nat.and_mod_two_pow (a := x) (b := y) (n := 1); simpa using this
      have m3 : (x ||| y) % 2 = ((x % 2) ||| (y % 2)) := by
        have := Nat.or_mod_two_pow (a := x) (b := y) (n := 1); simpa using this
      rcases Nat.mod_two_eq_zero_or_one x with a | a <;> rcases Nat.mod_two_eq_zero_or_one y with b | b <;> rw [a, b] at m1 m2 m3 <;> simp only [Nat.reduceXor, Nat.reduceAnd, Nat.reduceOr] at m1 m2 m3 <;> omega
theorem zlq (x y : Nat) : Builtin.bitAnd (x : Int) (y : Int) = ((x &&& y : Nat) : Int) := by
  simp [Builtin.bitAnd]
theorem zl1 (x y : Nat) : Builtin.bitOr (x : Int) (y : Int) = ((x ||| y : Nat) : Int) := by
  have h1 : ¬ (0 : Int) <= -(x : Int) - 1 := by omega
  have h2 : ¬ (0 : Int) <= -(y : Int) - 1 := by omega
  have h3 : (-(-(x : Int) - 1) - 1).toNat = x := by omega
  have h4 : (-(-(y : Int) - 1) - 1).toNat = y := by omega
  simp only [Builtin.bitOr, Builtin.bitAnd, Builtin.bitNot, h1, h2, decide_false, h3, h4]
  omega
theorem znW (x y : Nat) : Builtin.bitXor (x : Int) (y : Int) = ((x ^^^ y : Nat) : Int) := by
  have := zpF x x y (Nat.le_refl x)
  rw [Builtin.bitXor, zl1, zlq]
  omega
theorem pw (w : Nat) : ((2 ^ w : Nat) : Int) = 2 ^ w := by simp
theorem zqA {w : Nat} {a b : Int} (a0 : 0 <= a) (b0 : 0 <= b) (b1 : b < 2 ^ w) : 0 <= Builtin.bitAnd a b /\ Builtin.bitAnd a b < 2 ^ w := by
  obtain ⟨x, rfl⟩ : ∃ n : Nat, a = n := ⟨a.toNat, by omega⟩
  obtain ⟨y, rfl⟩ : ∃ n : Nat, b = n := ⟨b.toNat, by omega⟩
  rw [zlq]
  rw [<- pw] at b1 ⊢
  exact ⟨by omega, by exact_mod_cast Nat.and_lt_two_pow x (by omega : y < 2 ^ w)⟩
theorem zoa {w : Nat} {a b : Int} (a0 : 0 <= a) (a1 : a < 2 ^ w) (b0 : 0 <= b) (b1 : b < 2 ^ w) : 0 <= Builtin.bitXor a b /\ Builtin.bitXor a b < 2 ^ w := by
  obtain ⟨x, rfl⟩ : ∃ n : Nat, a = n := ⟨a.toNat, by omega⟩
  obtain ⟨y, rfl⟩ : ∃ n : Nat, b = n := ⟨b.toNat, by omega⟩
  rw [znW]
  rw [<- pw] at a1 b1 ⊢
  exact ⟨by omega, by exact_mod_cast Nat.xor_lt_two_pow (by omega : x < 2 ^ w) (by omega : y < 2 ^ w)⟩
theorem zoO {a b : Int} (a0 : 0 <= a) (b0 : 0 <= b) : Builtin.bitOr a b = 0 ↔ a = 0 /\ b = 0 := by
  obtain ⟨x, rfl⟩ : ∃ n : Nat, a = n := ⟨a.toNat, by omega⟩
  obtain ⟨y, rfl⟩ : ∃ n : Nat, b = n := ⟨b.toNat, by omega⟩
  rw [zl1]
  have := Nat.or_eq_zero_iff (n := x) (m := y)
  omega
theorem ze2 {w x : Nat} (h : x < 2 ^ (w + 1)) : (2 * (x : Int)) / 2 ^ (w + 1) = ((x / 2 ^ w : Nat) : Int) /\ (x / 2 ^ w = 0 \/ x / 2 ^ w = 1) := by
  have hp : 0 < 2 ^ w := Nat.pow_pos (by omega)
  constructor
  · rw [<- pw]
    have : (2 * x) / 2 ^ (w + 1) = x / 2 ^ w := by
      rw [Nat.pow_succ, Nat.mul_comm 2 x, Nat.mul_div_mul_right _ _ (by omega)]
    rw [<- this]
    rfl
  · have : x / 2 ^ w < 2 := Nat.div_lt_of_lt_mul (by rw [Nat.pow_succ] at h; omega)
    generalize x / 2 ^ w = q at this
    omega
def tb (w : Nat) (a : Int) : Int := (2 * a) / 2 ^ w
theorem zpn {w : Nat} (hw : 0 < w) {a b : Int} (a0 : 0 <= a) (a1 : a < 2 ^ w) (b0 : 0 <= b) (b1 : b < 2 ^ w) : tb w (Builtin.bitAnd a b) = tb w a * tb w b := by
  obtain ⟨x, rfl⟩ : ∃ n : Nat, a = n := ⟨a.toNat, by omega⟩
  obtain ⟨y, rfl⟩ : ∃ n : Nat, b = n := ⟨b.toNat, by omega⟩
  obtain ⟨w, rfl⟩ : ∃ v, w = v + 1 := ⟨w - 1, by omega⟩
  rw [<- pw] at a1 b1
  have hx := ze2 (show x < 2 ^ (w + 1) by omega)
  have hy := ze2 (show y < 2 ^ (w + 1) by omega)
  have hz := ze2 (Nat.and_lt_two_pow x (show y < 2 ^ (w + 1) by omega))
  rw [zlq, tb, tb, tb, hx.1, hy.1, hz.1, Nat.and_div_two_pow]
  rcases hx.2 with e | e <;> rcases hy.2 with f | f <;> rw [e, f] <;> rfl
theorem znJ {w : Nat} (hw : 0 < w) {a b : Int} (a0 : 0 <= a) (a1 : a < 2 ^ w) (b0 : 0 <= b) (b1 : b < 2 ^ w) : tb w (Builtin.bitXor a b) = (tb w a + tb w b) % 2 := by
  obtain ⟨x, rfl⟩ : ∃ n : Nat, a = n := ⟨a.toNat, by omega⟩
  obtain ⟨y, rfl⟩ : ∃ n : Nat, b = n := ⟨b.toNat, by omega⟩
  obtain ⟨w, rfl⟩ : ∃ v, w = v + 1 := ⟨w - 1, by omega⟩
  rw [<- pw] at a1 b1
  have hx := ze2 (show x < 2 ^ (w + 1) by omega)
  have hy := ze2 (show y < 2 ^ (w + 1) by omega)
  have hz := ze2 (Nat.xor_lt_two_pow (show x < 2 ^ (w + 1) by omega) (show y < 2 ^ (w + 1) by omega))
  rw [znW, tb, tb, tb, hx.1, hy.1, hz.1, Nat.xor_div_two_pow]
  rcases hx.2 with e | e <;> rcases hy.2 with f | f <;> rw [e, f] <;> rfl
theorem zqf {w : Nat} (hw : 0 < w) {a : Int} (a0 : 0 <= a) (a1 : a < 2 ^ w) : tb w a = if 2 ^ w <= 2 * a then 1 else 0 := by
  have h1 : (0 : Int) < 2 ^ w := Int.pow_pos (by omega)
  unfold tb
  split
  · rename_i h
    exact Int.le_antisymm (Int.le_of_lt_add_one (Int.ediv_lt_of_lt_mul h1 (by omega))) (Int.le_ediv_of_mul_le h1 (by omega))
  · exact Int.ediv_eq_zero_of_lt (by omega) (by omega)
end WK
namespace WK
open IC PySem
def Dg (W : Int) (M : Mem) (c n : Nat) : Prop := ∀ i : Nat, i < n -> 0 <= M c i /\ M c i < W
theorem Dg.mono {W : Int} {M : Mem} {c n : Nat} (h : Dg W M c (n + 1)) : Dg W M c n := fun i hi => h i (by omega)
theorem zaw {W : Int} {M M' : Mem} {c c' : Nat} : ∀ n, (∀ i : Nat, i < n -> M c i = M' c' i) -> valM W M c n = valM W M' c' n
  | 0, _ => rfl
  | n + 1, h => by rw [valM, valM, zaw n fun i hi => h i (by omega), h n (by omega)]
theorem zep {W : Int} (hW : 0 < W) {M : Mem} {c : Nat} : ∀ n, Dg W M c n -> 0 <= valM W M c n /\ valM W M c n < W ^ n
  | 0, _ => by simp [valM]
  | n + 1, h => by
    obtain ⟨a, b⟩ := zep hW n h.mono
    obtain ⟨c0, c1⟩ := h n (by omega)
    have hp : 0 < W ^ n := Int.pow_pos hW
    have h1 : 0 <= M c n * W ^ n := Int.mul_nonneg c0 (by omega)
    have h2 : M c n * W ^ n <= (W - 1) * W ^ n := Int.mul_le_mul_of_nonneg_right (by omega) (by omega)
    rw [Int.sub_mul, Int.one_mul] at h2
    rw [valM, Int.pow_succ, Int.mul_comm (W ^ n) W]
    omega
theorem zit {W : Int} (hW : 0 < W) {M : Mem} {c : Nat} : ∀ n, Dg W M c n -> (valM W M c n = 0 ↔ ∀ i : Nat, i < n -> M c i = 0)
  | 0, _ => by simp [valM]
  | n + 1, h => by
    have ih := zit hW n h.mono
    obtain ⟨a, b⟩ := zep hW n h.mono
    obtain ⟨c0, c1⟩ := h n (by omega)
    have hp : 0 < W ^ n := Int.pow_pos hW
    have h1 : 0 <= M c n * W ^ n := Int.mul_nonneg c0 (by omega)
    rw [valM]
    constructor
    · intro h2 i hi
      have h3 : M c n * W ^ n = 0 := by omega
      rcases Nat.lt_or_ge i n with z | z
      · exact ih.1 (by omega) i z
      · rw [show i = n by omega]
        rcases Int.mul_eq_zero.1 h3 with e | e
        · exact e
        · omega
    · intro h2
      rw [h2 n (by omega), ih.2 fun i hi => h2 i (by omega)]
      simp
theorem zdr {w : Nat} (hw : 0 < w) {M : Mem} {c n : Nat} (h : Dg (2 ^ w) M c (n + 1)) : tb w (M c n) = if (2 ^ w : Int) ^ (n + 1) <= 2 * valM (2 ^ w) M c (n + 1) then 1 else 0 := by
  obtain ⟨c0, c1⟩ := h n (by omega)
  obtain ⟨a, b⟩ := zep (Int.pow_pos (by omega)) n h.mono
  rw [zqf hw c0 c1, valM]
  obtain ⟨v, rfl⟩ : ∃ v, w = v + 1 := ⟨w - 1, by omega⟩
  have hp : 0 < ((2 : Int) ^ (v + 1)) ^ n := Int.pow_pos (Int.pow_pos (by omega))
  rw [Int.pow_succ ((2 : Int) ^ (v + 1)) n]
  generalize ((2 : Int) ^ (v + 1)) ^ n = P at *
  generalize hV : valM (2 ^ (v + 1)) M c n = V at *
  rw [Int.pow_succ] at *
  generalize (2 : Int) ^ v = H at *
  generalize M c (n : Int) = d at *
  by_cases hd : H <= d
  · have h1 := Int.mul_le_mul_of_nonneg_right hd (show 0 <= P by omega)
    have h2 : P * (H * 2) = 2 * (H * P) := by rw [Int.mul_comm P, Int.mul_assoc, Int.mul_comm 2 P, <- Int.mul_assoc, Int.mul_comm 2]
    rw [if_pos (by omega), if_pos (by rw [h2]; omega)]
  · have h1 := Int.mul_le_mul_of_nonneg_right (show d <= H - 1 by omega) (show 0 <= P by omega)
    rw [Int.sub_mul, Int.one_mul] at h1
    have h2 : P * (H * 2) = 2 * (H * P) := by rw [Int.mul_comm P, Int.mul_assoc, Int.mul_comm 2 P, <- Int.mul_assoc, Int.mul_comm 2]
    rw [if_neg (by omega), if_neg (by rw [h2]; omega)]
theorem zjT {W : Int} (hW : 0 < W) (hW2 : 2 <= W) (M : Mem) (k : Int) (k0 : 0 <= k) (k1 : k <= 1) : ∀ n, Dg W M 97 n -> Dg W M 98 n ->
    (∀ d j, (d ≠ 99 \/ (n : Int) <= j) -> (runM W (wordRows n .sum) M k).1 d j = M d j) /\ Dg W (runM W (wordRows n .sum) M k).1 99 n /\ 0 <= (runM W (wordRows n .sum) M k).2 /\ (runM W (wordRows n .sum) M k).2 <= 1 /\ valM W (runM W (wordRows n .sum) M k).1 99 n + (runM W (wordRows n .sum) M k).2 * W ^ n = valM W M 97 n + valM W M 98 n + k
  | 0, _, _ => ⟨fun _ _ _ => rfl, fun i hi => by omega, k0, k1, by simp [valM, wordRows, upRows, runM]⟩
  | n + 1, ha, hb => by
    obtain ⟨h1, h2, h3, h4, h5⟩ := zjT hW hW2 M k k0 k1 n ha.mono hb.mono
    have e : wordRows (n + 1) .sum = wordRows n .sum ++ [.sum (99, n) (97, n) (98, n)] := rfl
    rw [e, zbA]
    generalize runM W (wordRows n .sum) M k = R at *
    obtain ⟨M1, k'⟩ := R
    simp only at *
    obtain ⟨a0, a1⟩ := ha n (by omega)
    obtain ⟨b0, b1⟩ := hb n (by omega)
    simp only [runM, stepM, rd, wr, h1 97 n (.inl (by decide)), h1 98 n (.inl (by decide))]
    generalize hA : M 97 (n : Int) = A at *
    generalize hB : M 98 (n : Int) = B at *
    have d1 := Int.emod_nonneg (A + B + k') (show W ≠ 0 by omega)
    have d2 := Int.emod_lt_of_pos (A + B + k') hW
    have d3 := Int.emod_add_mul_ediv (A + B + k') W
    have d4 : 0 <= (A + B + k') / W := Int.ediv_nonneg (by omega) (by omega)
    have d5 : (A + B + k') / W < 2 := Int.ediv_lt_of_lt_mul hW (by omega)
    refine ⟨fun d j hd => ?_, fun i hi => ?_, d4, by omega, ?_⟩
    · unfold upd
      rw [if_neg (by omega), h1 d j (by omega)]
    · unfold upd
      by_cases hin : i = n
      · subst hin; rw [if_pos ⟨rfl, rfl⟩]; exact ⟨d1, d2⟩
      · rw [if_neg (by omega)]; exact h2 i (by omega)
    · have hv : valM W (upd M1 99 (n : Int) ((A + B + k') % W)) 99 (n + 1) = valM W M1 99 n + (A + B + k') % W * W ^ n := by
        rw [valM, zaw (M' := M1) (c' := 99) n fun i hi => by unfold upd; rw [if_neg (by omega)]]
        unfold upd
        rw [if_pos ⟨rfl, rfl⟩]
      rw [hv, valM, valM, hA, hB, Int.pow_succ]
      generalize W ^ n = P at *
      generalize (A + B + k') % W = r at *
      generalize (A + B + k') / W = q at *
      have e2 : r = A + B + k' - W * q := by omega
      subst e2
      have e3 : (A + B + k' - W * q) * P + q * (P * W) = A * P + B * P + k' * P := by
        rw [Int.sub_mul, Int.add_mul, Int.add_mul, Int.mul_comm W q, Int.mul_assoc q W P, Int.mul_comm W P]
        omega
      generalize (A + B + k' - W * q) * P = X1 at *
      generalize q * (P * W) = X2 at *
      omega
theorem zjU {W : Int} (M : Mem) (k : Int) (hS : 0 <= M 115 0) : ∀ n, (∀ i : Nat, i < n -> 0 <= M 99 i) ->
    (runM W (upRows (fun i => Rw.any cS cS (99, i)) n) M k).2 = k /\ (∀ d j, d ≠ 115 -> (runM W (upRows (fun i => Rw.any cS cS (99, i)) n) M k).1 d j = M d j) /\ 0 <= (runM W (upRows (fun i => Rw.any cS cS (99, i)) n) M k).1 115 0 /\ ((runM W (upRows (fun i => Rw.any cS cS (99, i)) n) M k).1 115 0 = 0 ↔ M 115 0 = 0 /\ ∀ i : Nat, i < n -> M 99 i = 0)
  | 0, _ => ⟨rfl, fun _ _ _ => rfl, hS, by simp [upRows, runM]⟩
  | n + 1, h => by
    obtain ⟨h1, h2, h3, h4⟩ := zjU (W := W) M k hS n fun i hi => h i (by omega)
    rw [upRows, zbA]
    generalize runM W (upRows (fun i => Rw.any cS cS (99, i)) n) M k = R at *
    obtain ⟨M1, k'⟩ := R
    simp only at *
    have hb := h n (by omega)
    simp only [runM, stepM, rd, wr, cS, h2 99 n (by decide)]
    have hz := zoO h3 hb
    refine ⟨h1, fun d j hd => ?_, ?_, ?_⟩
    · unfold upd
      rw [if_neg (by omega), h2 d j hd]
    · unfold upd
      rw [if_pos ⟨rfl, rfl⟩]
      obtain ⟨x, hx⟩ : ∃ x : Nat, M1 115 0 = x := ⟨(M1 115 0).toNat, by omega⟩
      obtain ⟨y, hy⟩ : ∃ y : Nat, M 99 n = y := ⟨(M 99 n).toNat, by omega⟩
      rw [hx, hy, zl1]
      omega
    · unfold upd
      rw [if_pos ⟨rfl, rfl⟩, hz, h4]
      constructor
      · rintro ⟨⟨a, b⟩, c⟩
        refine ⟨a, fun i hi => ?_⟩
        rcases Nat.lt_or_ge i n with z | z
        · exact b i z
        · rw [show i = n by omega]; exact c
      · rintro ⟨a, b⟩
        exact ⟨⟨a, fun i hi => b i (by omega)⟩, b n (by omega)⟩
end WK
namespace WK
open IC PySem
theorem zc5 {W : Int} {r : Rw} {rs : List Rw} {M : Mem} {k : Int} : runM W (r :: rs) M k = runM W rs (stepM W M k r).1 (stepM W M k r).2 := rfl
theorem zob (b : Bool) : 0 <= bi b /\ bi b <= 1 := by cases b <;> decide
theorem zg9 {w : Nat} (hw : 1 < w) {n : Nat} (M : Mem) (k : Int) (hc : Dg (2 ^ w) M 99 (n + 1)) (hz : M 122 0 = 0) :
    (∀ j, (runM (2 ^ w) (endRows (n + 1)) M k).1 99 j = M 99 j) /\ (runM (2 ^ w) (endRows (n + 1)) M k).1 109 0 = M 109 0 /\ (runM (2 ^ w) (endRows (n + 1)) M k).1 109 1 = M 109 1 /\
    (runM (2 ^ w) (endRows (n + 1)) M k).1 109 2 = bi (valM (2 ^ w) M 99 (n + 1) == 0) /\ (runM (2 ^ w) (endRows (n + 1)) M k).1 109 3 = bi (decide ((2 ^ w : Int) ^ (n + 1) <= 2 * valM (2 ^ w) M 99 (n + 1))) := by
  have hW : (0 : Int) < 2 ^ w := Int.pow_pos (by omega)
  have hW4 : (4 : Int) <= 2 ^ w := by
    have h : (2 : Nat) ^ 2 <= 2 ^ w := Nat.pow_le_pow_right (by omega) (by omega)
    have h2 := pw w
    omega
  obtain ⟨h1, h2, h3, h4⟩ := zjU (W := 2 ^ w) (wr M cS 0) k (by simp [wr, upd]) (n + 1) (fun i hi => by simp [wr, upd]; exact (hc i hi).1)
  have e : endRows (n + 1) = .set cS 0 :: (upRows (fun i => Rw.any cS cS (99, i)) (n + 1) ++ [.ask cS, .set (109, 2) 1, .less (109, 2) (109, 2) cZ, .twice cT (99, ((n + 1 : Nat) : Int) - 1), .sum (109, 3) cZ cZ]) := rfl
  have hst : stepM (2 ^ w) M k (.set cS 0) = (wr M cS 0, k) := rfl
  rw [e, zc5, hst, zbA]
  generalize runM (2 ^ w) (upRows (fun i => Rw.any cS cS (99, i)) (n + 1)) (wr M cS 0) k = R at *
  obtain ⟨M1, k'⟩ := R
  simp only at *
  subst h1
  have g : ∀ d j, d ≠ 115 -> M1 d j = M d j := fun d j hd => by
    rw [h2 d j hd]
    simp only [wr, upd, cS]
    rw [if_neg (by omega)]
  have hn : ((n + 1 : Nat) : Int) - 1 = n := by omega
  have h5 : M1 115 0 = 0 ↔ valM (2 ^ w) M 99 (n + 1) = 0 := by
    rw [h4, zit hW (n + 1) hc]
    constructor
    · rintro ⟨_, b⟩ i hi
      have := b i hi
      simpa [wr, upd] using this
    · intro b
      exact ⟨by simp [wr, upd], fun i hi => by simpa [wr, upd] using b i hi⟩
  have ht := zdr (by omega) hc
  have hb : bi (!(M1 115 0 == 0)) = 1 - bi (valM (2 ^ w) M 99 (n + 1) == 0) := by
    by_cases hv : valM (2 ^ w) M 99 (n + 1) = 0
    · rw [h5.2 hv, hv]; rfl
    · have : ¬ M1 115 0 = 0 := fun z => hv (h5.1 z)
      rw [beq_eq_false_iff_ne.2 this, beq_eq_false_iff_ne.2 hv]; rfl
  have hbr := zob (valM (2 ^ w) M 99 (n + 1) == 0)
  rw [hn]
  simp only [runM, stepM, rd, wr, upd, cS, cT, cZ]
  rw [hb]
  generalize bi (valM (2 ^ w) M 99 (n + 1) == 0) = v at *
  have hm : bi (decide ((1 : Int) - 0 - (1 - v) < 0)) = 0 := by
    rw [decide_eq_false (by omega)]; rfl
  have hm2 : (1 - 0 - (1 - v)) % (2 : Int) ^ w = v := by
    rw [show 1 - 0 - (1 - v) = v by omega]
    exact Int.emod_eq_of_lt (by omega) (by omega)
  have hT : (2 * M 99 n + 0) / 2 ^ w = bi (decide ((2 ^ w : Int) ^ (n + 1) <= 2 * valM (2 ^ w) M 99 (n + 1))) := by
    rw [Int.add_zero]
    show tb w (M 99 n) = _
    rw [ht]
    by_cases q : (2 ^ w : Int) ^ (n + 1) <= 2 * valM (2 ^ w) M 99 (n + 1)
    · rw [if_pos q, decide_eq_true q]; rfl
    · rw [if_neg q, decide_eq_false q]; rfl
  have hTr := zob (decide ((2 ^ w : Int) ^ (n + 1) <= 2 * valM (2 ^ w) M 99 (n + 1)))
  simp only [Nat.reduceEqDiff, false_and, if_false, Int.reduceEq, and_false, and_self, if_true, g _ _ (show (99 : Nat) ≠ 115 by decide), g _ _ (show (109 : Nat) ≠ 115 by decide), g _ _ (show (122 : Nat) ≠ 115 by decide), hz, hm, hm2, hT]
  refine ⟨fun j => trivial, trivial, trivial, trivial, ?_⟩
  rw [show (0 : Int) + 0 + bi (decide ((2 ^ w : Int) ^ (n + 1) <= 2 * valM (2 ^ w) M 99 (n + 1))) = bi (decide ((2 ^ w : Int) ^ (n + 1) <= 2 * valM (2 ^ w) M 99 (n + 1))) by omega]
  exact Int.emod_eq_of_lt (by omega) (by omega)
end WK
namespace WK
open IC PySem
theorem zen {c d : Nat} (h : d ≠ c) (j : Int) : ∀ (vs : List Int) (i : Nat) (M : Mem), fillM c i vs M d j = M d j
  | [], _, _ => rfl
  | v :: vs, i, M => by
    rw [fillM, zen h j vs, upd, if_neg (by omega)]
theorem zf9 {c : Nat} (j : Int) : ∀ (vs : List Int) (i : Nat) (M : Mem), j < i -> fillM c i vs M c j = M c j
  | [], _, _, _ => rfl
  | v :: vs, i, M, h => by
    rw [fillM, zf9 j vs (i + 1) _ (by omega), upd, if_neg (by omega)]
theorem zhp {c : Nat} : ∀ (vs : List Int) (i : Nat) (M : Mem) (k : Nat), k < vs.length -> fillM c i vs M c ((i + k : Nat) : Int) = vs.getD k 0
  | [], _, _, _, h => by simp at h
  | v :: vs, i, M, 0, h => by
    rw [fillM, zf9 _ vs (i + 1) _ (by omega), upd, if_pos ⟨rfl, by simp⟩]
    rfl
  | v :: vs, i, M, k + 1, h => by
    rw [fillM, show i + (k + 1) = i + 1 + k by omega, zhp vs (i + 1) _ k (by simpa using h)]
    rfl
theorem zga {W : Int} (hW : 0 < W) : ∀ (n : Nat) (x : Int) (k : Nat), k < n -> (wordsL W n x).getD k 0 = x / W ^ k % W
  | 0, _, _, h => by omega
  | n + 1, x, 0, h => by simp [wordsL]
  | n + 1, x, k + 1, h => by
    rw [wordsL]
    show (wordsL W n (x / W)).getD k 0 = _
    rw [zga hW n (x / W) k (by omega), Int.pow_succ, Int.mul_comm (W ^ k), Int.ediv_ediv_of_nonneg (by omega)]
theorem zg7 {W x : Int} (hW : 0 < W) (n : Nat) : x % W ^ (n + 1) = x % W ^ n + x / W ^ n % W * W ^ n := by
  have hp : 0 < W ^ n := Int.pow_pos hW
  rw [Int.pow_succ]
  generalize W ^ n = P at *
  have e1 := Int.emod_add_mul_ediv x P
  have e2 := Int.emod_add_mul_ediv (x / P) W
  have a0 := Int.emod_nonneg x (show P ≠ 0 by omega)
  have a1 := Int.emod_lt_of_pos x hp
  have b0 := Int.emod_nonneg (x / P) (show W ≠ 0 by omega)
  have b1 := Int.emod_lt_of_pos (x / P) hW
  generalize x % P = r at *
  generalize x / P = q at *
  generalize q % W = s at *
  generalize q / W = t at *
  subst e2
  have e3 : x = r + s * P + P * W * t := by
    rw [<- e1, Int.mul_add, Int.mul_comm P s, Int.mul_assoc P W t]; omega
  have c1 : s * P <= (W - 1) * P := Int.mul_le_mul_of_nonneg_right (by omega) (by omega)
  have c0 : 0 <= s * P := Int.mul_nonneg b0 (by omega)
  rw [Int.sub_mul, Int.one_mul] at c1
  rw [e3, Int.add_mul_emod_self_left, Int.emod_eq_of_lt (by omega) (by rw [Int.mul_comm P W]; omega)]
theorem zhB {W : Int} (hW : 0 < W) {M : Mem} {c : Nat} {x : Int} : ∀ n, (∀ i : Nat, i < n -> M c i = x / W ^ i % W) -> valM W M c n = x % W ^ n
  | 0, _ => by simp [valM, Int.emod_one]
  | n + 1, h => by rw [valM, zhB hW n fun i hi => h i (by omega), h n (by omega), zg7 hW]
section
variable {W : Int} (n : Nat) (x y : Int)
theorem zj6 {d : Nat} (h1 : d ≠ 97) (h2 : d ≠ 98) (j : Int) : begM W n x y d j = 0 := by
  rw [begM, zen h2, zen h1]; rfl
variable (hW : 0 < W)
include hW
theorem zpu {i : Nat} (h : i < n) : begM W n x y 97 i = x / W ^ i % W := by
  rw [begM, zen (by decide)]
  have := zhp (c := 97) (wordsL W n x) 0 M0 i (by rw [zbo]; exact h)
  rw [Nat.zero_add] at this
  rw [this, zga hW n x i h]
theorem zpR {i : Nat} (h : i < n) : begM W n x y 98 i = y / W ^ i % W := by
  rw [begM]
  have := zhp (c := 98) (wordsL W n y) 0 (fillM 97 0 (wordsL W n x) M0) i (by rw [zbo]; exact h)
  rw [Nat.zero_add] at this
  rw [this, zga hW n y i h]
theorem zjo : Dg W (begM W n x y) 97 n := fun i hi => by
  rw [zpu n x y hW hi]
  exact ⟨Int.emod_nonneg _ (by omega), Int.emod_lt_of_pos _ hW⟩
theorem zn3 : Dg W (begM W n x y) 98 n := fun i hi => by
  rw [zpR n x y hW hi]
  exact ⟨Int.emod_nonneg _ (by omega), Int.emod_lt_of_pos _ hW⟩
theorem zgT (h0 : 0 <= x) (h1 : x < W ^ n) : valM W (begM W n x y) 97 n = x := by
  rw [zhB hW n fun i hi => zpu n x y hW hi, Int.emod_eq_of_lt h0 h1]
theorem zmc (h0 : 0 <= y) (h1 : y < W ^ n) : valM W (begM W n x y) 98 n = y := by
  rw [zhB hW n fun i hi => zpR n x y hW hi, Int.emod_eq_of_lt h0 h1]
end
theorem zhS {w : Nat} (hw : 1 < w) (M : Mem) (a b c : Cel) (ha : a.1 ≠ 115 /\ a.1 ≠ 116) (hb : b.1 ≠ 115 /\ b.1 ≠ 116) (hc : c.1 ≠ 115 /\ c.1 ≠ 116) (hz : M 122 0 = 0)
    (a0 : 0 <= rd M a /\ rd M a < 2 ^ w) (b0 : 0 <= rd M b /\ rd M b < 2 ^ w) (c0 : 0 <= rd M c /\ rd M c < 2 ^ w) :
    (∀ d j, d ≠ 115 -> d ≠ 116 -> (d ≠ 109 \/ j ≠ 1) -> (runM (2 ^ w) (loneRows a b c) M 0).1 d j = M d j) /\ (runM (2 ^ w) (loneRows a b c) M 0).2 = 0 /\ (runM (2 ^ w) (loneRows a b c) M 0).1 109 1 = (tb w (rd M a) + tb w (rd M b)) % 2 * ((tb w (rd M a) + tb w (rd M c)) % 2) := by
  have hW : (0 : Int) < 2 ^ w := Int.pow_pos (by omega)
  have hW4 : (4 : Int) <= 2 ^ w := by
    have h : (2 : Nat) ^ 2 <= 2 ^ w := Nat.pow_le_pow_right (by omega) (by omega)
    have h2 := pw w
    omega
  have x1 := zoa a0.1 a0.2 b0.1 b0.2
  have x2 := zoa a0.1 a0.2 c0.1 c0.2
  have t1 := zpn (by omega : 0 < w) x1.1 x1.2 x2.1 x2.2
  rw [znJ (by omega) a0.1 a0.2 b0.1 b0.2, znJ (by omega) a0.1 a0.2 c0.1 c0.2] at t1
  obtain ⟨a1, a2⟩ := a
  obtain ⟨b1, b2⟩ := b
  obtain ⟨c1, c2⟩ := c
  simp only [rd] at *
  have m1 := Int.emod_nonneg (tb w (M a1 a2) + tb w (M b1 b2)) (show (2 : Int) ≠ 0 by decide)
  have m2 := Int.emod_lt_of_pos (tb w (M a1 a2) + tb w (M b1 b2)) (show (0 : Int) < 2 by decide)
  have m3 := Int.emod_nonneg (tb w (M a1 a2) + tb w (M c1 c2)) (show (2 : Int) ≠ 0 by decide)
  have m4 := Int.emod_lt_of_pos (tb w (M a1 a2) + tb w (M c1 c2)) (show (0 : Int) < 2 by decide)
  have hr : 0 <= (tb w (M a1 a2) + tb w (M b1 b2)) % 2 * ((tb w (M a1 a2) + tb w (M c1 c2)) % 2) /\ (tb w (M a1 a2) + tb w (M b1 b2)) % 2 * ((tb w (M a1 a2) + tb w (M c1 c2)) % 2) <= 1 := by
    rcases (by omega : (tb w (M a1 a2) + tb w (M b1 b2)) % 2 = 0 \/ (tb w (M a1 a2) + tb w (M b1 b2)) % 2 = 1) with e | e <;> rw [e] <;> omega
  generalize (tb w (M a1 a2) + tb w (M b1 b2)) % 2 * ((tb w (M a1 a2) + tb w (M c1 c2)) % 2) = v at *
  have n1 : ¬ (c1 = 116) := hc.2
  have n2 : ¬ (a1 = 116) := ha.2
  simp only [loneRows, runM, stepM, rd, wr, upd, cS, cT, cZ, n1, n2, Nat.reduceEqDiff, false_and, if_false, and_self, if_true, hz, Int.add_zero]
  unfold tb at t1
  rw [t1]
  refine ⟨fun d j h1 h2 h3 => ?_, ?_, ?_⟩
  · simp only [h1, h2, false_and, if_false]
    rw [if_neg (by omega)]
  · exact Int.ediv_eq_zero_of_lt (by omega) (by omega)
  · rw [Int.zero_add]
    exact Int.emod_eq_of_lt (by omega) (by omega)
end WK
namespace WK
open IC
theorem dbl {call : Cl} {i j : Nat} (hij : i ≠ j) : ∀ (N : Nat) (a : Int) (ρ : IC.Env) (v : Int) (st : Store), ρ[i]? = some (some (.int v)) ->
    ∃ u, forB call (.n j) (.cons (.asg (.n i) (.bin .mul (.cst (.int 2)) (.var i))) .nil) (rangeL N a 1) ρ st = .nx ((ρ.set i (some (.int (2 ^ N * v)))).set j u) st /\ (N = 0 -> ρ[j]? = some u \/ ρ.length <= j)
  | 0, a, ρ, v, st, h => by
    have hi : ρ.set i (some (.int v)) = ρ := by
      refine List.ext_getElem? fun z => ?_
      rw [List.getElem?_set]
      split
      · rename_i e
        subst e
        split
        · exact h.symm
        · rw [List.getElem?_eq_none (by omega)] at h
          cases h
      · rfl
    rcases Nat.lt_or_ge j ρ.length with hj | hj
    · refine ⟨ρ[j], ?_, fun _ => .inl (List.getElem?_eq_getElem hj)⟩
      rw [rangeL, zcy, Int.pow_zero, Int.one_mul, hi, List.set_getElem_self]
    · refine ⟨none, ?_, fun _ => .inr hj⟩
      rw [rangeL, zcy, Int.pow_zero, Int.one_mul, hi, List.set_eq_of_length_le hj]
  | N + 1, a, ρ, v, st, h => by
    have h1 : (ρ.set j (some (.int a)))[i]? = some (some (.int v)) := by
      rw [List.getElem?_set_ne (Ne.symm hij)]; exact h
    have hil : i < ρ.length := by
      rcases Nat.lt_or_ge i ρ.length with z | z
      · exact z
      · rw [List.getElem?_eq_none z] at h; cases h
    have h2 : exs call (ρ.set j (some (.int a))) st (.cons (.asg (.n i) (.bin .mul (.cst (.int 2)) (.var i))) .nil) = .nx ((ρ.set j (some (.int a))).set i (some (.int (2 * v)))) st := by
      simp only [xs_nil, xs_cons, x_asg, thenF, nxO, ev.eq_1, ev.eq_2, ev.eq_3, R.bind, R.fl, h1, bindT, binV, binI, CMulB, toR]
      simp
    obtain ⟨u, h3, _⟩ := dbl (call := call) hij N (a + 1) ((ρ.set j (some (.int a))).set i (some (.int (2 * v)))) (2 * v) st (by rw [List.getElem?_set_self (by rw [List.length_set]; exact hil)])
    refine ⟨u, ?_, fun z => by cases z⟩
    rw [rangeL, zcp (ρ1 := ρ.set j (some (.int a))) rfl, h2]
    show forB call _ _ _ _ _ = _
    rw [h3, List.set_set, List.set_comm _ _ (Ne.symm hij), List.set_set, Int.pow_succ, Int.mul_assoc]
end WK
namespace WK
open IC PySem
def sgd (T x : Int) : Int := if T <= 2 * x then x - T else x
def fitB (T s : Int) : Bool := decide (0 - T <= 2 * s) && decide (2 * s < T)
end WK
namespace WK
open IC PySem
theorem zmM {w : Nat} (hw : 1 < w) {n : Nat} {x y : Int} (x0 : 0 <= x) (x1 : x < (2 ^ w : Int) ^ (n + 1)) (y0 : 0 <= y) (y1 : y < (2 ^ w : Int) ^ (n + 1)) :
    valM (2 ^ w) (runM (2 ^ w) (sumRows (n + 1)) (begM (2 ^ w) (n + 1) x y) 0).1 99 (n + 1) = (x + y) % (2 ^ w : Int) ^ (n + 1) /\
    (runM (2 ^ w) (sumRows (n + 1)) (begM (2 ^ w) (n + 1) x y) 0).1 109 0 = bi (decide ((2 ^ w : Int) ^ (n + 1) <= x + y)) /\
    (runM (2 ^ w) (sumRows (n + 1)) (begM (2 ^ w) (n + 1) x y) 0).1 109 1 = bi (!fitB ((2 ^ w : Int) ^ (n + 1)) (sgd ((2 ^ w : Int) ^ (n + 1)) x + sgd ((2 ^ w : Int) ^ (n + 1)) y)) /\
    (runM (2 ^ w) (sumRows (n + 1)) (begM (2 ^ w) (n + 1) x y) 0).1 109 2 = bi ((x + y) % (2 ^ w : Int) ^ (n + 1) == 0) /\
    (runM (2 ^ w) (sumRows (n + 1)) (begM (2 ^ w) (n + 1) x y) 0).1 109 3 = bi (decide ((2 ^ w : Int) ^ (n + 1) <= 2 * ((x + y) % (2 ^ w : Int) ^ (n + 1)))) := by
  have hW : (0 : Int) < 2 ^ w := Int.pow_pos (by omega)
  have hW4 : (4 : Int) <= 2 ^ w := by
    have h : (2 : Nat) ^ 2 <= 2 ^ w := Nat.pow_le_pow_right (by omega) (by omega)
    have h2 := pw w
    omega
  have e : sumRows (n + 1) = .mark 0 :: (wordRows (n + 1) .sum ++ (.sum (109, 0) cZ cZ :: (loneRows (99, ((n + 1 : Nat) : Int) - 1) (97, ((n + 1 : Nat) : Int) - 1) (98, ((n + 1 : Nat) : Int) - 1) ++ endRows (n + 1)))) := by
    simp [sumRows, List.append_assoc]
  have hn : ((n + 1 : Nat) : Int) - 1 = n := by omega
  have da := zjo (n + 1) x y hW
  have db := zn3 (n + 1) x y hW
  have va := zgT (n + 1) x y hW x0 x1
  have vb := zmc (n + 1) x y hW y0 y1
  have zo : begM (2 ^ w) (n + 1) x y 122 0 = 0 := zj6 _ _ _ (by decide) (by decide) _
  generalize begM (2 ^ w) (n + 1) x y = M at *
  obtain ⟨s1, s2, s3, s4, s5⟩ := zjT hW (by omega) M 0 (by omega) (by omega) (n + 1) da db
  have hs0 : stepM (2 ^ w) M 0 (.mark 0) = (M, 0) := rfl
  rw [e, zc5, hs0, zbA, zc5, hn]
  generalize runM (2 ^ w) (wordRows (n + 1) .sum) M 0 = R at *
  obtain ⟨M1, k1⟩ := R
  simp only at *
  have z1 : M1 122 0 = 0 := by rw [s1 122 0 (.inl (by decide)), zo]
  have hs : stepM (2 ^ w) M1 k1 (.sum (109, 0) cZ cZ) = (wr M1 (109, 0) k1, 0) := by
    simp only [stepM, rd, cZ, z1]
    rw [show (0 : Int) + 0 + k1 = k1 by omega, Int.emod_eq_of_lt s3 (by omega), Int.ediv_eq_zero_of_lt s3 (by omega)]
  rw [hs, zbA]
  simp only
  have g2 : ∀ d j, (d ≠ 109 \/ j ≠ 0) -> wr M1 (109, 0) k1 d j = M1 d j := fun d j h => by
    simp only [wr, upd]; rw [if_neg (by omega)]
  have g3 : wr M1 (109, 0) k1 109 0 = k1 := by simp [wr, upd]
  generalize wr M1 (109, 0) k1 = M2 at *
  have ga : ∀ j, M2 97 j = M 97 j := fun j => by rw [g2 97 j (.inl (by decide)), s1 97 j (.inl (by decide))]
  have gb : ∀ j, M2 98 j = M 98 j := fun j => by rw [g2 98 j (.inl (by decide)), s1 98 j (.inl (by decide))]
  have gc : ∀ j, M2 99 j = M1 99 j := fun j => g2 99 j (.inl (by decide))
  have da2 : Dg (2 ^ w) M2 97 (n + 1) := fun i hi => by rw [ga]; exact da i hi
  have db2 : Dg (2 ^ w) M2 98 (n + 1) := fun i hi => by rw [gb]; exact db i hi
  have dc2 : Dg (2 ^ w) M2 99 (n + 1) := fun i hi => by rw [gc]; exact s2 i hi
  have ta := zdr (by omega) da2
  have tb' := zdr (by omega) db2
  have tc := zdr (by omega) dc2
  rw [zaw (M' := M) (c' := 97) _ fun i hi => ga i, va] at ta
  rw [zaw (M' := M) (c' := 98) _ fun i hi => gb i, vb] at tb'
  obtain ⟨r0, r1⟩ := zep hW (n + 1) dc2
  have vc : valM (2 ^ w) M2 99 (n + 1) = valM (2 ^ w) M1 99 (n + 1) := zaw _ fun i hi => gc i
  rw [<- vc, va, vb] at s5
  obtain ⟨l1, l2, l3⟩ := zhS hw M2 (99, n) (97, n) (98, n) ⟨by simp, by simp⟩ ⟨by simp, by simp⟩ ⟨by simp, by simp⟩ (by rw [g2 122 0 (.inl (by decide)), z1]) (dc2 n (by omega)) (da2 n (by omega)) (db2 n (by omega))
  generalize runM (2 ^ w) (loneRows (99, (n : Int)) (97, (n : Int)) (98, (n : Int))) M2 0 = R at *
  obtain ⟨M3, k3⟩ := R
  simp only at *
  have gc3 : ∀ j, M3 99 j = M2 99 j := fun j => l1 99 j (by decide) (by decide) (.inl (by decide))
  have dc3 : Dg (2 ^ w) M3 99 (n + 1) := fun i hi => by rw [gc3]; exact dc2 i hi
  have vc3 : valM (2 ^ w) M3 99 (n + 1) = valM (2 ^ w) M2 99 (n + 1) := zaw _ fun i hi => gc3 i
  obtain ⟨e1, e2, e3, e4, e5⟩ := zg9 hw M3 k3 dc3 (by rw [l1 122 0 (by decide) (by decide) (.inl (by decide)), g2 122 0 (.inl (by decide)), z1])
  rw [zaw (M' := M3) (c' := 99) _ fun i hi => e1 i, e2, e3, e4, e5, vc3, l1 109 0 (by decide) (by decide) (.inr (by decide)), g3, l3]
  simp only [rd]
  rw [tc, ta, tb']
  generalize valM (2 ^ w) M2 99 (n + 1) = z at *
  generalize (2 ^ w : Int) ^ (n + 1) = T at *
  have hz : (x + y) % T = z := by
    rw [show x + y = z + k1 * T by omega, Int.add_mul_emod_self_right, Int.emod_eq_of_lt r0 r1]
  have hk : k1 = 0 \/ k1 = 1 := by omega
  rw [hz]
  refine ⟨rfl, ?_, ?_, rfl, rfl⟩
  · rcases hk with rfl | rfl
    · rw [decide_eq_false (by omega)]; rfl
    · rw [decide_eq_true (by omega)]; rfl
  · unfold sgd fitB
    rcases hk with rfl | rfl <;> by_cases q1 : T <= 2 * x <;> by_cases q2 : T <= 2 * y <;> by_cases q3 : T <= 2 * z <;> simp only [q1, q2, q3, if_true, if_false]
    all_goals first
      | (exfalso; omega)
      | (rw [decide_eq_true (by omega), decide_eq_true (by omega)]; rfl)
      | (rw [decide_eq_false (by omega)]; rfl)
      | (rw [decide_eq_true (by omega), decide_eq_false (by omega)]; rfl)
end WK
namespace WK
open IC PySem
def valF (W : Int) (f : Nat -> Int) : Nat -> Int
  | 0 => 0
  | n + 1 => valF W f n + f n * W ^ n
theorem zjO (W : Int) (M : Mem) (c : Nat) : ∀ n, valF W (fun i => M c i) n = valM W M c n
  | 0 => rfl
  | n + 1 => by rw [valF, valM, zjO W M c n]
theorem znY (W : Int) : ∀ n, valF W (fun _ => 0) n = 0
  | 0 => rfl
  | n + 1 => by rw [valF, znY W n]; simp
theorem zhF {W : Int} (hW : 0 < W) (M : Mem) (k : Int) (k0 : 0 <= k) (k1 : k <= 1) (X Y : Int -> Cel) (hX : ∀ i, (X i).1 ≠ 99) (hY : ∀ i, (Y i).1 ≠ 99) : ∀ n : Nat, (∀ i : Nat, i < n -> 0 <= rd M (X i) /\ rd M (X i) < W) -> (∀ i : Nat, i < n -> 0 <= rd M (Y i) /\ rd M (Y i) < W) ->
    (∀ d j, (d ≠ 99 \/ (n : Int) <= j) -> (runM W (upRows (fun i => .less (99, i) (X i) (Y i)) n) M k).1 d j = M d j) /\ Dg W (runM W (upRows (fun i => .less (99, i) (X i) (Y i)) n) M k).1 99 n /\ 0 <= (runM W (upRows (fun i => .less (99, i) (X i) (Y i)) n) M k).2 /\ (runM W (upRows (fun i => .less (99, i) (X i) (Y i)) n) M k).2 <= 1 /\ valM W (runM W (upRows (fun i => .less (99, i) (X i) (Y i)) n) M k).1 99 n - (runM W (upRows (fun i => .less (99, i) (X i) (Y i)) n) M k).2 * W ^ n = valF W (fun i => rd M (X i)) n - valF W (fun i => rd M (Y i)) n - k
  | 0, _, _ => ⟨fun _ _ _ => rfl, fun i hi => by omega, k0, k1, by simp [valM, valF, upRows, runM]⟩
  | n + 1, ha, hb => by
    obtain ⟨h1, h2, h3, h4, h5⟩ := zhF hW M k k0 k1 X Y hX hY n (fun i hi => ha i (by omega)) (fun i hi => hb i (by omega))
    rw [upRows, zbA]
    generalize runM W (upRows (fun i => .less (99, i) (X i) (Y i)) n) M k = R at *
    obtain ⟨M1, k'⟩ := R
    simp only at *
    obtain ⟨a0, a1⟩ := ha n (by omega)
    obtain ⟨b0, b1⟩ := hb n (by omega)
    have rx : rd M1 (X n) = rd M (X n) := h1 _ _ (.inl (hX _))
    have ry : rd M1 (Y n) = rd M (Y n) := h1 _ _ (.inl (hY _))
    simp only [runM, stepM, wr, rx, ry]
    rw [valF, valF]
    generalize rd M (X n) = A at *
    generalize rd M (Y n) = B at *
    have hq : ∃ q, 0 <= q /\ q <= 1 /\ bi (decide (A - B - k' < 0)) = q /\ (A - B - k') % W = A - B - k' + q * W := by
      by_cases hl : A - B - k' < 0
      · refine ⟨1, by omega, by omega, by rw [decide_eq_true hl]; rfl, ?_⟩
        rw [Int.one_mul, <- Int.add_emod_right]
        exact Int.emod_eq_of_lt (by omega) (by omega)
      · refine ⟨0, by omega, by omega, by rw [decide_eq_false hl]; rfl, ?_⟩
        rw [Int.zero_mul, Int.add_zero]
        exact Int.emod_eq_of_lt (by omega) (by omega)
    obtain ⟨q, q0, q1, e1, e2⟩ := hq
    have d1 := Int.emod_nonneg (A - B - k') (show W ≠ 0 by omega)
    have d2 := Int.emod_lt_of_pos (A - B - k') hW
    rw [e1]
    refine ⟨fun d j hd => ?_, fun i hi => ?_, q0, q1, ?_⟩
    · unfold upd
      rw [if_neg (by omega), h1 d j (by omega)]
    · unfold upd
      by_cases hin : i = n
      · subst hin; rw [if_pos ⟨rfl, rfl⟩]; exact ⟨d1, d2⟩
      · rw [if_neg (by omega)]; exact h2 i (by omega)
    · have hv : valM W (upd M1 99 (n : Int) ((A - B - k') % W)) 99 (n + 1) = valM W M1 99 n + (A - B - k') % W * W ^ n := by
        rw [valM, zaw (M' := M1) (c' := 99) n fun i hi => by unfold upd; rw [if_neg (by omega)]]
        unfold upd
        rw [if_pos ⟨rfl, rfl⟩]
      rw [hv, e2, Int.pow_succ]
      generalize W ^ n = P at *
      have e3 : (A - B - k' + q * W) * P - q * (P * W) = A * P - B * P - k' * P := by
        rw [Int.add_mul, Int.sub_mul, Int.sub_mul, Int.mul_assoc q W P, Int.mul_comm W P]
        omega
      generalize (A - B - k' + q * W) * P = X1 at *
      generalize q * (P * W) = X2 at *
      omega
theorem zh0 {w : Nat} (hw : 1 < w) {n : Nat} (M : Mem) (X Y : Int -> Cel) (L0 L1 : Cel) (hX : ∀ i, (X i).1 ≠ 99) (hY : ∀ i, (Y i).1 ≠ 99)
    (ha : ∀ i : Nat, i < n + 1 -> 0 <= rd M (X i) /\ rd M (X i) < 2 ^ w) (hb : ∀ i : Nat, i < n + 1 -> 0 <= rd M (Y i) /\ rd M (Y i) < 2 ^ w) (zo : M 122 0 = 0)
    (hL0 : L0 = X n) (hL1 : L1 = Y n) (l0 : L0.1 ≠ 115 /\ L0.1 ≠ 116 /\ L0.1 ≠ 109) (l1 : L1.1 ≠ 115 /\ L1.1 ≠ 116 /\ L1.1 ≠ 109) :
    ∃ z k1, 0 <= z /\ z < (2 ^ w : Int) ^ (n + 1) /\ (k1 = 0 \/ k1 = 1) /\ z - k1 * (2 ^ w : Int) ^ (n + 1) = valF (2 ^ w) (fun i => rd M (X i)) (n + 1) - valF (2 ^ w) (fun i => rd M (Y i)) (n + 1) /\
      ∃ M4 k4, runM (2 ^ w) (.mark 0 :: (upRows (fun i => .less (99, i) (X i) (Y i)) (n + 1) ++ (.sum (109, 0) cZ cZ :: (loneRows L0 L1 (99, n) ++ endRows (n + 1))))) M 0 = (M4, k4) /\
        valM (2 ^ w) M4 99 (n + 1) = z /\ M4 109 0 = k1 /\ M4 109 1 = (tb w (rd M L0) + tb w (rd M L1)) % 2 * ((tb w (rd M L0) + if (2 ^ w : Int) ^ (n + 1) <= 2 * z then 1 else 0) % 2) /\ M4 109 2 = bi (z == 0) /\ M4 109 3 = bi (decide ((2 ^ w : Int) ^ (n + 1) <= 2 * z)) := by
  have hW : (0 : Int) < 2 ^ w := Int.pow_pos (by omega)
  have hW4 : (4 : Int) <= 2 ^ w := by
    have h : (2 : Nat) ^ 2 <= 2 ^ w := Nat.pow_le_pow_right (by omega) (by omega)
    have h2 := pw w
    omega
  obtain ⟨s1, s2, s3, s4, s5⟩ := zhF hW M 0 (by omega) (by omega) X Y hX hY (n + 1) ha hb
  have hs0 : stepM (2 ^ w) M 0 (.mark 0) = (M, 0) := rfl
  rw [zc5, hs0, zbA, zc5]
  generalize runM (2 ^ w) (upRows (fun i => .less (99, i) (X i) (Y i)) (n + 1)) M 0 = R at *
  obtain ⟨M1, k1⟩ := R
  simp only at *
  have z1 : M1 122 0 = 0 := by rw [s1 122 0 (.inl (by decide)), zo]
  have hs : stepM (2 ^ w) M1 k1 (.sum (109, 0) cZ cZ) = (wr M1 (109, 0) k1, 0) := by
    simp only [stepM, rd, cZ, z1]
    rw [show (0 : Int) + 0 + k1 = k1 by omega, Int.emod_eq_of_lt s3 (by omega), Int.ediv_eq_zero_of_lt s3 (by omega)]
  rw [hs, zbA]
  simp only
  have g2 : ∀ d j, (d ≠ 109 \/ j ≠ 0) -> wr M1 (109, 0) k1 d j = M1 d j := fun d j h => by
    simp only [wr, upd]; rw [if_neg (by omega)]
  have g3 : wr M1 (109, 0) k1 109 0 = k1 := by simp [wr, upd]
  generalize wr M1 (109, 0) k1 = M2 at *
  have gc : ∀ j, M2 99 j = M1 99 j := fun j => g2 99 j (.inl (by decide))
  have dc2 : Dg (2 ^ w) M2 99 (n + 1) := fun i hi => by rw [gc]; exact s2 i hi
  have tc := zdr (by omega) dc2
  obtain ⟨r0, r1⟩ := zep hW (n + 1) dc2
  have vc : valM (2 ^ w) M2 99 (n + 1) = valM (2 ^ w) M1 99 (n + 1) := zaw _ fun i hi => gc i
  rw [<- vc] at s5
  have n0 : L0.1 ≠ 99 := by rw [hL0]; exact hX _
  have n1 : L1.1 ≠ 99 := by rw [hL1]; exact hY _
  have q0 : rd M2 L0 = rd M L0 := by
    show M2 L0.1 L0.2 = M L0.1 L0.2
    rw [g2 _ _ (.inl l0.2.2), s1 _ _ (.inl n0)]
  have q1 : rd M2 L1 = rd M L1 := by
    show M2 L1.1 L1.2 = M L1.1 L1.2
    rw [g2 _ _ (.inl l1.2.2), s1 _ _ (.inl n1)]
  have a0 := ha n (by omega)
  have b0 := hb n (by omega)
  rw [<- hL0, <- q0] at a0
  rw [<- hL1, <- q1] at b0
  obtain ⟨e1, e2, e3⟩ := zhS hw M2 L0 L1 (99, n) ⟨l0.1, l0.2.1⟩ ⟨l1.1, l1.2.1⟩ ⟨by simp, by simp⟩ (by rw [g2 122 0 (.inl (by decide)), z1]) a0 b0 (dc2 n (by omega))
  rw [q0, q1, show rd M2 (99, (n : Int)) = M2 99 n from rfl, tc] at e3
  generalize runM (2 ^ w) (loneRows L0 L1 (99, (n : Int))) M2 0 = R at *
  obtain ⟨M3, k3⟩ := R
  simp only at *
  have gc3 : ∀ j, M3 99 j = M2 99 j := fun j => e1 99 j (by decide) (by decide) (.inl (by decide))
  have dc3 : Dg (2 ^ w) M3 99 (n + 1) := fun i hi => by rw [gc3]; exact dc2 i hi
  have vc3 : valM (2 ^ w) M3 99 (n + 1) = valM (2 ^ w) M2 99 (n + 1) := zaw _ fun i hi => gc3 i
  obtain ⟨f1, f2, f3, f4, f5⟩ := zg9 hw M3 k3 dc3 (by rw [e1 122 0 (by decide) (by decide) (.inl (by decide)), g2 122 0 (.inl (by decide)), z1])
  refine ⟨valM (2 ^ w) M2 99 (n + 1), k1, r0, r1, by omega, by omega, (runM (2 ^ w) (endRows (n + 1)) M3 k3).1, (runM (2 ^ w) (endRows (n + 1)) M3 k3).2, rfl, ?_, ?_, ?_, ?_, ?_⟩
  · rw [zaw (M' := M3) (c' := 99) _ fun i hi => f1 i, vc3]
  · rw [f2, e1 109 0 (by decide) (by decide) (.inr (by decide)), g3]
  · rw [f3, e3]
  · rw [f4, vc3]
  · rw [f5, vc3]
theorem zk5 {w : Nat} (hw : 1 < w) {n : Nat} {x y : Int} (x0 : 0 <= x) (x1 : x < (2 ^ w : Int) ^ (n + 1)) (y0 : 0 <= y) (y1 : y < (2 ^ w : Int) ^ (n + 1)) :
    valM (2 ^ w) (runM (2 ^ w) (lessRows (n + 1)) (begM (2 ^ w) (n + 1) x y) 0).1 99 (n + 1) = (x - y) % (2 ^ w : Int) ^ (n + 1) /\
    (runM (2 ^ w) (lessRows (n + 1)) (begM (2 ^ w) (n + 1) x y) 0).1 109 0 = bi (decide (x < y)) /\
    (runM (2 ^ w) (lessRows (n + 1)) (begM (2 ^ w) (n + 1) x y) 0).1 109 1 = bi (!fitB ((2 ^ w : Int) ^ (n + 1)) (sgd ((2 ^ w : Int) ^ (n + 1)) x - sgd ((2 ^ w : Int) ^ (n + 1)) y)) /\
    (runM (2 ^ w) (lessRows (n + 1)) (begM (2 ^ w) (n + 1) x y) 0).1 109 2 = bi ((x - y) % (2 ^ w : Int) ^ (n + 1) == 0) /\
    (runM (2 ^ w) (lessRows (n + 1)) (begM (2 ^ w) (n + 1) x y) 0).1 109 3 = bi (decide ((2 ^ w : Int) ^ (n + 1) <= 2 * ((x - y) % (2 ^ w : Int) ^ (n + 1)))) := by
  have hW : (0 : Int) < 2 ^ w := Int.pow_pos (by omega)
  have hn : ((n + 1 : Nat) : Int) - 1 = n := by omega
  have e : lessRows (n + 1) = .mark 0 :: (upRows (fun i => .less (99, i) (97, i) (98, i)) (n + 1) ++ (.sum (109, 0) cZ cZ :: (loneRows (97, n) (98, n) (99, n) ++ endRows (n + 1)))) := by
    simp only [lessRows, wordRows, hn, List.append_assoc, List.cons_append, List.nil_append]
  have da := zjo (n + 1) x y hW
  have db := zn3 (n + 1) x y hW
  obtain ⟨z, k1, r0, r1, hk, s5, M4, k4, e0, v1, v2, v3, v4, v5⟩ := zh0 hw (n := n) (begM (2 ^ w) (n + 1) x y) (fun i => (97, i)) (fun i => (98, i)) (97, n) (98, n) (fun _ => by simp) (fun _ => by simp) (fun i hi => da i hi) (fun i hi => db i hi) (zj6 _ _ _ (by decide) (by decide) _) rfl rfl ⟨by simp, by simp, by simp⟩ ⟨by simp, by simp, by simp⟩
  rw [e, e0]
  simp only [rd] at v3 s5
  rw [zjO (2 ^ w) (begM (2 ^ w) (n + 1) x y) 97, zjO (2 ^ w) (begM (2 ^ w) (n + 1) x y) 98, zgT (n + 1) x y hW x0 x1, zmc (n + 1) x y hW y0 y1] at s5
  rw [zdr (by omega) da, zdr (by omega) db, zgT (n + 1) x y hW x0 x1, zmc (n + 1) x y hW y0 y1] at v3
  generalize (2 ^ w : Int) ^ (n + 1) = T at *
  have hz : (x - y) % T = z := by
    rw [show x - y = z + (-k1) * T by rw [Int.neg_mul]; omega, Int.add_mul_emod_self_right, Int.emod_eq_of_lt r0 r1]
  simp only [v1, v2, v3, v4, v5, hz]
  refine ⟨trivial, ?_, ?_, trivial, trivial⟩
  · rcases hk with rfl | rfl
    · rw [decide_eq_false (by omega)]; rfl
    · rw [decide_eq_true (by omega)]; rfl
  · unfold sgd fitB
    rcases hk with rfl | rfl <;> by_cases q1 : T <= 2 * x <;> by_cases q2 : T <= 2 * y <;> by_cases q3 : T <= 2 * z <;> simp only [q1, q2, q3, if_true, if_false]
    all_goals first
      | (exfalso; omega)
      | (rw [decide_eq_true (by omega), decide_eq_true (by omega)]; rfl)
      | (rw [decide_eq_false (by omega)]; rfl)
      | (rw [decide_eq_true (by omega), decide_eq_false (by omega)]; rfl)
theorem zlL {w : Nat} (hw : 1 < w) {n : Nat} {x y : Int} (x0 : 0 <= x) (x1 : x < (2 ^ w : Int) ^ (n + 1)) :
    valM (2 ^ w) (runM (2 ^ w) (turnRows (n + 1)) (begM (2 ^ w) (n + 1) x y) 0).1 99 (n + 1) = (0 - x) % (2 ^ w : Int) ^ (n + 1) /\
    (runM (2 ^ w) (turnRows (n + 1)) (begM (2 ^ w) (n + 1) x y) 0).1 109 0 = bi (!(x == 0)) /\
    (runM (2 ^ w) (turnRows (n + 1)) (begM (2 ^ w) (n + 1) x y) 0).1 109 1 = bi (2 * x == (2 ^ w : Int) ^ (n + 1)) /\
    (runM (2 ^ w) (turnRows (n + 1)) (begM (2 ^ w) (n + 1) x y) 0).1 109 2 = bi ((0 - x) % (2 ^ w : Int) ^ (n + 1) == 0) /\
    (runM (2 ^ w) (turnRows (n + 1)) (begM (2 ^ w) (n + 1) x y) 0).1 109 3 = bi (decide ((2 ^ w : Int) ^ (n + 1) <= 2 * ((0 - x) % (2 ^ w : Int) ^ (n + 1)))) := by
  have hW : (0 : Int) < 2 ^ w := Int.pow_pos (by omega)
  have hn : ((n + 1 : Nat) : Int) - 1 = n := by omega
  have e : turnRows (n + 1) = .mark 0 :: (upRows (fun i => .less (99, i) ((fun _ => cZ) i) ((fun i => (97, i)) i)) (n + 1) ++ (.sum (109, 0) cZ cZ :: (loneRows cZ (97, n) (99, n) ++ endRows (n + 1)))) := by
    simp only [turnRows, hn, List.append_assoc, List.cons_append, List.nil_append]
  have da := zjo (n + 1) x y hW
  have zo : begM (2 ^ w) (n + 1) x y 122 0 = 0 := zj6 _ _ _ (by decide) (by decide) _
  obtain ⟨z, k1, r0, r1, hk, s5, M4, k4, e0, v1, v2, v3, v4, v5⟩ := zh0 hw (n := n) (begM (2 ^ w) (n + 1) x y) (fun _ => cZ) (fun i => (97, i)) cZ (97, n) (fun _ => by simp) (fun _ => by simp) (fun i hi => by simp only [rd, cZ, zo]; omega) (fun i hi => da i hi) zo rfl rfl ⟨by simp, by simp, by simp⟩ ⟨by simp, by simp, by simp⟩
  rw [e, e0]
  simp only [rd, cZ, zo] at v3 s5
  rw [znY, zjO (2 ^ w) (begM (2 ^ w) (n + 1) x y) 97, zgT (n + 1) x y hW x0 x1] at s5
  rw [zdr (by omega) da, zgT (n + 1) x y hW x0 x1, show tb w 0 = 0 by simp [tb]] at v3
  generalize (2 ^ w : Int) ^ (n + 1) = T at *
  have hz : (0 - x) % T = z := by
    rw [show 0 - x = z + (-k1) * T by rw [Int.neg_mul]; omega, Int.add_mul_emod_self_right, Int.emod_eq_of_lt r0 r1]
  simp only [v1, v2, v3, v4, v5, hz]
  refine ⟨trivial, ?_, ?_, trivial, trivial⟩
  · rcases hk with rfl | rfl
    · rw [show x = 0 by omega]; rfl
    · rw [beq_eq_false_iff_ne.2 (by omega)]; rfl
  · rcases hk with rfl | rfl <;> by_cases q1 : T <= 2 * x <;> by_cases q3 : T <= 2 * z <;> simp only [q1, q3, if_true, if_false]
    all_goals first
      | (exfalso; omega)
      | (rw [beq_eq_false_iff_ne.2 (by omega)]; rfl)
      | (rw [beq_iff_eq.2 (by omega)]; rfl)
end WK
namespace WK
open IC PySem
theorem zjL {W : Int} (M : Mem) (k : Int) (f : Int -> Rw) (g : Int -> Int) (hf : ∀ (M1 : Mem) (i : Int), (∀ d j, d ≠ 99 -> M1 d j = M d j) -> stepM W M1 k (f i) = (wr M1 (99, i) (g i), k)) : ∀ n : Nat,
    (runM W (upRows f n) M k).2 = k /\ (∀ d j, d ≠ 99 -> (runM W (upRows f n) M k).1 d j = M d j) /\ ∀ i : Nat, i < n -> (runM W (upRows f n) M k).1 99 i = g i
  | 0 => ⟨rfl, fun _ _ _ => rfl, fun i hi => by omega⟩
  | n + 1 => by
    obtain ⟨h1, h2, h3⟩ := zjL M k f g hf n
    rw [upRows, zbA]
    generalize runM W (upRows f n) M k = R at *
    obtain ⟨M1, k'⟩ := R
    simp only at *
    subst h1
    simp only [runM, hf M1 n h2]
    refine ⟨trivial, fun d j hd => ?_, fun i hi => ?_⟩
    · simp only [wr, upd]; rw [if_neg (by omega), h2 d j hd]
    · simp only [wr, upd]
      by_cases hin : i = n
      · subst hin; rw [if_pos ⟨trivial, rfl⟩]
      · rw [if_neg (by omega)]; exact h3 i (by omega)
theorem zmY {w : Nat} (hw : 1 < w) {n : Nat} (M : Mem) (f : Int -> Rw) (g : Int -> Int) (hf : ∀ (M1 : Mem) (i : Int), (∀ d j, d ≠ 99 -> M1 d j = M d j) -> stepM (2 ^ w) M1 0 (f i) = (wr M1 (99, i) (g i), 0)) (hg : ∀ i : Nat, i < n + 1 -> 0 <= g i /\ g i < 2 ^ w) (zo : M 122 0 = 0) (m0 : M 109 0 = 0) (m1 : M 109 1 = 0) :
    valM (2 ^ w) (runM (2 ^ w) (upRows f (n + 1) ++ endRows (n + 1)) M 0).1 99 (n + 1) = valF (2 ^ w) (fun i => g i) (n + 1) /\ (runM (2 ^ w) (upRows f (n + 1) ++ endRows (n + 1)) M 0).1 109 0 = 0 /\ (runM (2 ^ w) (upRows f (n + 1) ++ endRows (n + 1)) M 0).1 109 1 = 0 /\
    (runM (2 ^ w) (upRows f (n + 1) ++ endRows (n + 1)) M 0).1 109 2 = bi (valF (2 ^ w) (fun i => g i) (n + 1) == 0) /\ (runM (2 ^ w) (upRows f (n + 1) ++ endRows (n + 1)) M 0).1 109 3 = bi (decide ((2 ^ w : Int) ^ (n + 1) <= 2 * valF (2 ^ w) (fun i => g i) (n + 1))) := by
  obtain ⟨h1, h2, h3⟩ := zjL (W := 2 ^ w) M 0 f g hf (n + 1)
  rw [zbA]
  generalize runM (2 ^ w) (upRows f (n + 1)) M 0 = R at *
  obtain ⟨M1, k'⟩ := R
  simp only at *
  have dc : Dg (2 ^ w) M1 99 (n + 1) := fun i hi => by rw [h3 i hi]; exact hg i hi
  have hv : ∀ m, m <= n + 1 -> valM (2 ^ w) M1 99 m = valF (2 ^ w) (fun i => g i) m := by
    intro m
    induction m with
    | zero => intro _; rfl
    | succ m ih => intro hm; rw [valM, valF, ih (by omega), h3 m (by omega)]
  obtain ⟨e1, e2, e3, e4, e5⟩ := zg9 hw M1 k' dc (by rw [h2 122 0 (by decide), zo])
  rw [zaw (M' := M1) (c' := 99) _ fun i hi => e1 i, e2, e3, e4, e5, hv _ (Nat.le_refl _), h2 109 0 (by decide), h2 109 1 (by decide), m0, m1]
  exact ⟨rfl, rfl, rfl, rfl, rfl⟩
theorem zmm {w : Nat} (hw : 1 < w) {n : Nat} {x y : Int} (x0 : 0 <= x) (x1 : x < (2 ^ w : Int) ^ (n + 1)) :
    valM (2 ^ w) (runM (2 ^ w) (bareRows (n + 1)) (begM (2 ^ w) (n + 1) x y) 0).1 99 (n + 1) = (2 ^ w : Int) ^ (n + 1) - 1 - x /\
    (runM (2 ^ w) (bareRows (n + 1)) (begM (2 ^ w) (n + 1) x y) 0).1 109 0 = 0 /\
    (runM (2 ^ w) (bareRows (n + 1)) (begM (2 ^ w) (n + 1) x y) 0).1 109 1 = 0 /\
    (runM (2 ^ w) (bareRows (n + 1)) (begM (2 ^ w) (n + 1) x y) 0).1 109 2 = bi ((2 ^ w : Int) ^ (n + 1) - 1 - x == 0) /\
    (runM (2 ^ w) (bareRows (n + 1)) (begM (2 ^ w) (n + 1) x y) 0).1 109 3 = bi (decide ((2 ^ w : Int) ^ (n + 1) <= 2 * ((2 ^ w : Int) ^ (n + 1) - 1 - x))) := by
  have hW : (0 : Int) < 2 ^ w := Int.pow_pos (by omega)
  have da := zjo (n + 1) x y hW
  obtain ⟨a1, a2, a3, a4, a5⟩ := zmY hw (n := n) (begM (2 ^ w) (n + 1) x y) (fun i => .bare (99, i) (97, i)) (fun i => 2 ^ w - 1 - begM (2 ^ w) (n + 1) x y 97 i) (fun M1 i h => by
    simp only [stepM, rd, h 97 i (by decide)]) (fun i hi => by have := da i hi; omega) (zj6 _ _ _ (by decide) (by decide) _) (zj6 _ _ _ (by decide) (by decide) _) (zj6 _ _ _ (by decide) (by decide) _)
  have hv : ∀ m, valF (2 ^ w) (fun i => 2 ^ w - 1 - begM (2 ^ w) (n + 1) x y 97 (i : Nat)) m = (2 ^ w : Int) ^ m - 1 - valM (2 ^ w) (begM (2 ^ w) (n + 1) x y) 97 m := by
    intro m
    induction m with
    | zero => simp [valF, valM]
    | succ m ih =>
      rw [valF, valM, ih, Int.pow_succ, Int.sub_mul, Int.sub_mul, Int.one_mul, Int.mul_comm (2 ^ w) ((2 ^ w) ^ m)]
      omega
  rw [hv, zgT (n + 1) x y hW x0 x1] at a1 a4 a5
  exact ⟨a1, a2, a3, a4, a5⟩
end WK
namespace WK
open IC PySem
theorem zmJ {c : Cl} {N acc lo : Int} {st : Store} : exs c [some (.int N), some (.int acc), some (.int lo)] st (.cons (.asg (.n 1) (.bin .mul (.cst (.int 2)) (.var 1))) .nil) = .nx [some (.int N), some (.int (2 * acc)), some (.int lo)] st := by
  simp only [xs_nil, xs_cons, x_asg, thenF, nxO, ev.eq_1, ev.eq_2, ev.eq_3, R.bind, R.fl, bindT, binV, binI, CMulB, toR, List.set_cons_zero, List.set_cons_succ, List.getElem?_cons_zero, List.getElem?_cons_succ]
  simp
theorem zkT (k n : Nat) (hn : n < 1000) (st : Store) : callT T (k + 1) zlv [.int n] st = .ok (.int (2 ^ n)) st := by
  obtain ⟨ρ', st', h, u, e1, e2⟩ := zhu (call := callT T k) (t := .n 2) (b := .cons (.asg (.n 1) (.bin .mul (.cst (.int 2)) (.var 1))) .nil) (fun i ρ st => ∃ u, ρ = [some (.int n), some (.int (2 ^ i)), u] /\ st = []) (rangeL n 0 1) 0 [some (.int n), some (.int 1), none] [] ⟨_, rfl, rfl⟩ (by
    rintro j x ρ st hx ⟨u, rfl, rfl⟩
    have hx : ∃ i, x = .int i := by
      have : ∀ (n : Nat) (a d : Int) (j : Nat) x, (rangeL n a d)[j]? = some x -> ∃ i, x = .int i := by
        intro n
        induction n with
        | zero => intro a d j x h; simp [rangeL] at h
        | succ n ih =>
          intro a d j x h
          cases j with
          | zero => simp [rangeL] at h; exact ⟨a, h.symm⟩
          | succ j => simp [rangeL] at h; exact ih _ _ _ _ h
      exact this _ _ _ _ _ hx
    obtain ⟨i, rfl⟩ := hx
    exact ⟨_, _, _, rfl, zmJ, _, by rw [Int.pow_succ, Int.mul_comm], rfl⟩)
  have hl : (rangeL n 0 1).length = n := by
    have : ∀ (n : Nat) (a d : Int), (rangeL n a d).length = n := by
      intro n
      induction n with
      | zero => intro a d; rfl
      | succ n ih => intro a d; simp [rangeL, ih]
    exact this _ _ _
  rw [hl, Nat.zero_add] at e1
  subst e1 e2
  rw [callT]
  simp only [T, zf7, List.length_cons, List.length_nil, if_true, noLocs, noLoc, Bool.and_self, List.map_cons, List.map_nil, Nat.reduceSub, List.replicate, List.cons_append, List.nil_append, xs_cons, xs_nil, x_asg, zgw, x_ret, thenF, nxO, ev.eq_1, ev.eq_2, R.fl, bindT, List.set_cons_zero, List.set_cons_succ, evi, R.bind, List.getElem?_cons_zero, rng1, toL]
  simp only [show (n : Int).natAbs < 1000000000 by omega, if_true, Int.toNat_natCast, h]
  simp [noLoc]
end WK
namespace WK
open IC PySem
theorem mb1 (x : Int) : (x % 2147483647).natAbs < 18446744073709551616 := by omega
theorem mb2 (x : Int) : (x % 2147483629).natAbs < 18446744073709551616 := by omega
theorem mb3 (x : Int) : (x % 2147483587).natAbs < 18446744073709551616 := by omega
theorem mb4 (x : Int) : (x % 2147483579).natAbs < 18446744073709551616 := by omega
theorem mb5 (x : Int) : (x % 2147483563).natAbs < 18446744073709551616 := by omega
def primes : PV := .tup [.int 2147483647, .int 2147483629, .int 2147483587, .int 2147483579, .int 2147483563]
def mixB : Css := match f_qmixed.body with
  | .cons _ (.cons _ (.cons (.for _ _ b) _)) => b
  | _ => .nil
theorem znf {c : Cl} {s num : Int} {u5 u6 u7 : Option PV} (i : Nat) (p : Int) (h : (i, p) ∈ [(0, (2147483647 : Int)), (1, 2147483629), (2, 2147483587), (3, 2147483579), (4, 2147483563)]) :
    ∃ num' v5 v6 v7, exs c [some (.int s), some primes, some (.int num), some (.int i), some (.int p), u5, u6, u7] [] mixB = .nx [some (.int s), some primes, some (.int num'), some (.int i), some (.int p), v5, v6, v7] [] := by
  simp only [List.mem_cons, Prod.mk.injEq, List.not_mem_nil, or_false] at h
  rcases h with ⟨rfl, rfl⟩ | ⟨rfl, rfl⟩ | ⟨rfl, rfl⟩ | ⟨rfl, rfl⟩ | ⟨rfl, rfl⟩
  all_goals
    simp only [mixB, f_qmixed, xs_nil, xs_cons, x_asg, thenF, nxO, ev.eq_1, ev.eq_2, ev.eq_3, ev.eq_11, ev.eq_16, evs, R.bind, R.fl, bindT, binV, binI, CMulB, toR, List.set_cons_zero, List.set_cons_succ, List.getElem?_cons_zero, List.getElem?_cons_succ, idxV, idxI, at?, ixI, mb1, mb2, mb3, mb4, mb5, sizeMax]
    simp [mb1, mb2, mb3, mb4, mb5]
end WK
namespace WK
open IC PySem
def mixL : List PV := [.tup [.int 0, .int 2147483647], .tup [.int 1, .int 2147483629], .tup [.int 2, .int 2147483587], .tup [.int 3, .int 2147483579], .tup [.int 4, .int 2147483563]]
theorem mixed (k : Nat) (s : Int) (st : Store) : ∃ num, callT T (k + 1) zjm [.int s] st = .ok (.int num) st := by
  obtain ⟨ρ', st', h, num, a, b, c, d, e, e1, e2⟩ := zhu (call := callT T k) (t := .t [3, 4]) (b := mixB) (fun _ ρ st => ∃ num a b c d e, ρ = [some (.int s), some primes, some (.int num), a, b, c, d, e] /\ st = []) mixL 0 [some (.int s), some primes, some (.int 0), none, none, none, none, none] [] ⟨_, _, _, _, _, _, rfl, rfl⟩ (by
    rintro j x ρ st hx ⟨num, a, b, c, d, e, rfl, rfl⟩
    have hx := List.mem_of_getElem? hx
    have hx : ∃ i p, x = .tup [.int ((i : Nat) : Int), .int p] /\ (i, p) ∈ [(0, (2147483647 : Int)), (1, 2147483629), (2, 2147483587), (3, 2147483579), (4, 2147483563)] := by
      simp only [mixL, List.mem_cons, List.not_mem_nil, or_false] at hx
      rcases hx with rfl | rfl | rfl | rfl | rfl
      · exact ⟨0, _, rfl, by simp⟩
      · exact ⟨1, _, rfl, by simp⟩
      · exact ⟨2, _, rfl, by simp⟩
      · exact ⟨3, _, rfl, by simp⟩
      · exact ⟨4, _, rfl, by simp⟩
    obtain ⟨i, p, rfl, hm⟩ := hx
    obtain ⟨num', v5, v6, v7, hh⟩ := znf (c := callT T k) (s := s) (num := num) (u5 := c) (u6 := d) (u7 := e) i p hm
    exact ⟨_, _, _, rfl, hh, _, _, _, _, _, _, rfl, rfl⟩)
  subst e1 e2
  refine ⟨num, ?_⟩
  rw [callT]
  have hb : f_qmixed.body = .cons (.asg (.n 1) (.tup (.cons (.cst (.int 2147483647)) (.cons (.cst (.int 2147483629)) (.cons (.cst (.int 2147483587)) (.cons (.cst (.int 2147483579)) (.cons (.cst (.int 2147483563)) .nil))))))) (.cons (.asg (.n 2) (.cst (.int 0))) (.cons (.for (.t [3, 4]) (.enum (.var 1)) mixB) (.cons (.ret (.var 2)) .nil))) := rfl
  have hT : T zjm = some ⟨1, 8, true, f_qmixed.body⟩ := rfl
  have hp : PV.tup [.int 2147483647, .int 2147483629, .int 2147483587, .int 2147483579, .int 2147483563] = primes := rfl
  rw [hT, hb]
  have h5 : ev (callT T k) [some (.int s), none, none, none, none, none, none, none] [] (.tup (.cons (.cst (.int 2147483647)) (.cons (.cst (.int 2147483629)) (.cons (.cst (.int 2147483587)) (.cons (.cst (.int 2147483579)) (.cons (.cst (.int 2147483563)) .nil)))))) = .ok primes [] := by
    simp [ev.eq_1, ev.eq_11, evs, R.bind, sizeMax, primes]
  have he : evi (callT T k) [some (.int s), some primes, some (.int 0), none, none, none, none, none] [] (.enum (.var 1)) = .ok mixL [] := by
    simp [evi, ev.eq_2, R.bind, primes, pairsUp, mixL]
  simp only [List.length_cons, List.length_nil, if_true, noLocs, noLoc, Bool.and_self, List.map_cons, List.map_nil, Nat.reduceSub, List.replicate, List.cons_append, List.nil_append, xs_cons, xs_nil, x_asg, zgw, x_ret, h5, R.fl, bindT, nxO, thenF, List.set_cons_zero, List.set_cons_succ, ev.eq_1, he, h, ev.eq_2, List.getElem?_cons_zero, List.getElem?_cons_succ]
end WK
namespace WK
open IC PySem
theorem rdS {st : Store} {n : Nat} {o x : Ob} (h : st[n]? = some o) : (st.set n x)[n]? = some x := by
  have : n < st.length := by
    rcases Nat.lt_or_ge n st.length with h1 | h1
    · exact h1
    · rw [List.getElem?_eq_none h1] at h; cases h
  rw [List.getElem?_set_self this]
theorem fill (k n : Nat) (ns : List Int) (hns : ns.length <= 1000) (a p : Int) (ha : 0 <= a) (f : Bool) (st : Store) (h : st[n]? = some (.lst [.lst (ns.map .int), .int a, .int p, .bl f])) :
    ∃ p' f', callT T (k + 2) zoN [.loc n] st = .ok .non (st.set n (.lst [.lst (ns.map .int), .int (a + 1), .int p', .bl f'])) := by
  rw [callT]
  by_cases hn : ns = []
  · subst hn
    obtain ⟨q, hq⟩ := mixed k (31 * a + 7) (st.set n (.lst [.lst [], .int (a + 1), .int p, .bl true]))
    have h' : st[n]? = some (.lst [.lst [], .int a, .int p, .bl f]) := h
    refine ⟨q, true, ?_⟩
    dsimp! [T, zeY, List.length_cons, List.length_nil, if_true, List.map_cons, List.map_nil, Nat.reduceSub, List.replicate, List.cons_append, List.nil_append, xs_nil, x_asg, ziq, stO, ev.eq_7, ev.eq_11, ev.eq_18, ev.eq_19, bindT, h, rdS h, sizeMax, CMulB, sixV, bltV, lenV, seqOf, onBl, ha, decide_true, cond_true]
    simp [ha, h', rdS h', hq]
  · have h0 : 0 < ns.length := List.length_pos_iff.2 hn
    have h1 := Int.emod_nonneg a (show (ns.length : Int) ≠ 0 by omega)
    have h2 := Int.emod_lt_of_pos a (show (0 : Int) < ns.length by omega)
    have h3 : (a % (ns.length : Int)).toNat < ns.length := by omega
    obtain ⟨v, hv⟩ : ∃ v, ns[(a % (ns.length : Int)).toNat]? = some v := ⟨_, List.getElem?_eq_getElem h3⟩
    have hw : ns[(a % (ns.length : Int)).toNat]'h3 = v := by rw [List.getElem?_eq_getElem h3] at hv; exact Option.some.inj hv
    have h4 : (ns.length : Int) < 10000000000000000000000000000000000000000000000000000000000000000000000 := by omega
    have h5 : (0 : Int) < ns.length := by omega
    by_cases hf : (ns.length : Int) <= a \/ 104729 * (a / (ns.length : Int)) + v < 1000000000000000000
    · obtain ⟨q, hq⟩ := mixed k (104729 * (a / (ns.length : Int)) + v) (st.set n (.lst [.lst (ns.map .int), .int (a + 1), .int p, .bl true]))
      refine ⟨q, true, ?_⟩
      rcases Classical.em ((ns.length : Int) <= a) with hg | hg
      · dsimp! [T, zeY, List.length_cons, List.length_nil, if_true, List.map_cons, List.map_nil, Nat.reduceSub, List.replicate, List.cons_append, List.nil_append, xs_nil, x_asg, ziq, stO, ev.eq_7, ev.eq_11, ev.eq_18, ev.eq_19, bindT, h, rdS h, sizeMax, CMulB, sixV, bltV, lenV, seqOf, onBl, List.length_map, h5, h1, h2, h4, hg, and_self, decide_true, cond_true, List.getElem?_map, hv, Option.bind_some, Option.map_some]
        simp [h, rdS h, hq, h0, h1, h2, h4, hv, hw, hg]
      · have hf := hf.resolve_left hg
        dsimp! [T, zeY, List.length_cons, List.length_nil, if_true, List.map_cons, List.map_nil, Nat.reduceSub, List.replicate, List.cons_append, List.nil_append, xs_nil, x_asg, ziq, stO, ev.eq_7, ev.eq_11, ev.eq_18, ev.eq_19, bindT, h, rdS h, sizeMax, CMulB, sixV, bltV, lenV, seqOf, onBl, List.length_map, h5, h1, h2, h4, hg, hf, and_self, decide_true, cond_true, List.getElem?_map, hv, Option.bind_some, Option.map_some]
        simp [h, rdS h, hq, h0, h1, h2, h4, hv, hw, hg, hf]
    · have hg : ¬ (ns.length : Int) <= a := fun z => hf (.inl z)
      have hf : ¬ 104729 * (a / (ns.length : Int)) + v < 1000000000000000000 := fun z => hf (.inr z)
      refine ⟨104729 * (a / (ns.length : Int)) + v - 1000000000000000000, false, ?_⟩
      dsimp! [T, zeY, List.length_cons, List.length_nil, if_true, List.map_cons, List.map_nil, Nat.reduceSub, List.replicate, List.cons_append, List.nil_append, xs_nil, x_asg, ziq, stO, ev.eq_7, ev.eq_11, ev.eq_18, ev.eq_19, bindT, h, rdS h, sizeMax, CMulB, sixV, bltV, lenV, seqOf, onBl, List.length_map, h5, h1, h2, h4, hg, hf, and_self, decide_true, cond_true, List.getElem?_map, hv, Option.bind_some, Option.map_some]
      simp [h, rdS h, h0, h1, h2, h4, hv, hw, hg, hf]
end WK
namespace WK
open IC PySem
def takeC : Ce := match f_qtake.body with
  | .cons _ (.cons (.while c _) _) => c
  | _ => .nope
def takeB : Css := match f_qtake.body with
  | .cons _ (.cons (.while _ b) _) => b
  | _ => .nil
theorem zlh {c : Cl} {n : Nat} {ns : List Int} {a p m t : Int} {f : Bool} {u : Option PV} {st : Store} (h : st[n]? = some (.lst [.lst (ns.map .int), .int a, .int p, .bl f])) :
    ∃ B, ev c [some (.loc n), some (.int m), some (.int t), u] st takeC = .ok (.bl B) st /\ (B = true -> t < 64) := by
  by_cases h1 : t < 64
  · by_cases h2 : p = 0
    · refine ⟨true, ?_, fun _ => h1⟩
      simp only [takeC, f_qtake, ev.eq_1, ev.eq_2, ev.eq_3, ev.eq_6, ev.eq_7, ev.eq_8, ev.eq_16, R.bind, List.getElem?_cons_zero, List.getElem?_cons_succ, h, idxV, idxI, at?, ixI, binV, binI, CMulB, toR, cmpV, cmpI, onBl]
      simp [h1, h2, zc8, peq]
    · have h2 : (p == 0) = false := by simp [h2]
      cases f
      · refine ⟨false, ?_, fun _ => h1⟩
        simp only [takeC, f_qtake, ev.eq_1, ev.eq_2, ev.eq_3, ev.eq_6, ev.eq_7, ev.eq_8, ev.eq_16, R.bind, List.getElem?_cons_zero, List.getElem?_cons_succ, h, idxV, idxI, at?, ixI, binV, binI, CMulB, toR, cmpV, cmpI, onBl]
        simp [h, h1, h2, zc8, peq]
      · refine ⟨decide (p < m * 4096), ?_, fun _ => h1⟩
        simp only [takeC, f_qtake, ev.eq_1, ev.eq_2, ev.eq_3, ev.eq_6, ev.eq_7, ev.eq_8, ev.eq_16, R.bind, List.getElem?_cons_zero, List.getElem?_cons_succ, h, idxV, idxI, at?, ixI, binV, binI, CMulB, toR, cmpV, cmpI, onBl]
        simp [h, h1, h2, zc8, peq]
  · refine ⟨false, ?_, fun z => by cases z⟩
    simp only [takeC, f_qtake, ev.eq_1, ev.eq_2, ev.eq_3, ev.eq_6, ev.eq_7, ev.eq_8, ev.eq_16, R.bind, List.getElem?_cons_zero, List.getElem?_cons_succ, h, idxV, idxI, at?, ixI, binV, binI, CMulB, toR, cmpV, cmpI, onBl]
    simp [h1]
theorem zlo (k : Nat) {n : Nat} {ns : List Int} (hns : ns.length <= 1000) {a p m t : Int} (ha : 0 <= a) {f : Bool} {u : Option PV} {st : Store} (h : st[n]? = some (.lst [.lst (ns.map .int), .int a, .int p, .bl f])) :
    ∃ p' f', exs (callT T (k + 2)) [some (.loc n), some (.int m), some (.int t), u] st takeB = .nx [some (.loc n), some (.int m), some (.int (t + 1)), u] (st.set n (.lst [.lst (ns.map .int), .int (a + 1), .int p', .bl f'])) := by
  obtain ⟨q, g, hq⟩ := fill k n ns hns a p ha f st h
  have hm : (1 + q % 4093).natAbs < 18446744073709551616 := by omega
  have hau : ∀ st, ex (callT T (k + 2)) [some (.loc n), some (.int m), some (.int t), u] st (.aug 2 .add (.cst (.int 1))) = .nx [some (.loc n), some (.int m), some (.int (t + 1)), u] st := fun st => by
    rw [zqo (x := .int t) rfl]
    simp [ev.eq_1, R.fl, augV, binV, binI, nxO]
  cases g
  · refine ⟨q, false, ?_⟩
    dsimp! [takeB, f_qtake, xs_nil, zjl, ziq, hau, ev.eq_6, ev.eq_18, hq, augV, Option.map_some, rdS h, CMulB, onBl]
    simp [rdS h]
  · by_cases hl : q < m * 4096
    · refine ⟨q + m * 4096 * (1 + q % 4093), true, ?_⟩
      dsimp! [takeB, f_qtake, xs_nil, zjl, ziq, hau, ev.eq_6, ev.eq_18, hq, augV, Option.map_some, rdS h, CMulB, onBl, stO, sixV]
      simp [rdS h, hl, hm]
    · refine ⟨q, true, ?_⟩
      dsimp! [takeB, f_qtake, xs_nil, zjl, ziq, hau, ev.eq_6, ev.eq_18, hq, augV, Option.map_some, rdS h, CMulB, onBl]
      simp [rdS h, hl]
theorem zhX (k : Nat) {n : Nat} {ns : List Int} (hns : ns.length <= 1000) {m : Int} {u : Option PV} : ∀ (r N : Nat) (t a p : Int) (f : Bool) (st : Store), r <= N -> 64 - t <= r -> 0 <= a -> st[n]? = some (.lst [.lst (ns.map .int), .int a, .int p, .bl f]) ->
    ∃ t' a' p' f', 0 <= a' /\ whileB (callT T (k + 2)) takeC takeB (N + 1) [some (.loc n), some (.int m), some (.int t), u] st = .nx [some (.loc n), some (.int m), some (.int t'), u] (st.set n (.lst [.lst (ns.map .int), .int a', .int p', .bl f']))
  | r, N, t, a, p, f, st, hN, ht, ha, h => by
    obtain ⟨B, hB, hb⟩ := zlh (c := callT T (k + 2)) (m := m) (t := t) (u := u) h
    have hs : st.set n (.lst [.lst (ns.map .int), .int a, .int p, .bl f]) = st := by
      refine List.ext_getElem? fun i => ?_
      rw [List.getElem?_set]
      split
      · rename_i e
        subst e
        split
        · exact h.symm
        · rename_i z
          rw [List.getElem?_eq_none (by omega)] at h
          cases h
      · rfl
    cases B with
    | false => exact ⟨t, a, p, f, ha, by rw [zi2 hB rfl, hs]⟩
    | true =>
      have h64 := hb rfl
      match r, N with
      | 0, _ => exact absurd ht (by omega)
      | r + 1, N + 1 =>
        obtain ⟨p1, f1, hx⟩ := zlo k hns (m := m) (t := t) ha (u := u) h
        obtain ⟨t', a', p', f', h0, h2⟩ := zhX k hns (m := m) (u := u) r N (t + 1) (a + 1) p1 f1 _ (by omega) (by omega) (by omega) (rdS h)
        refine ⟨t', a', p', f', h0, ?_⟩
        rw [zlS hB rfl hx, h2, List.set_set]
theorem take (k n : Nat) (ns : List Int) (hns : ns.length <= 1000) (a p m : Int) (ha : 0 <= a) (hm : 0 < m) (hm2 : m < 10000000000000000000000000000000000000000000000000000000000000000000000) (f : Bool) (st : Store) (h : st[n]? = some (.lst [.lst (ns.map .int), .int a, .int p, .bl f])) :
    ∃ d a' p' f', 0 <= d /\ d < m /\ 0 <= a' /\ callT T (k + 3) zjf [.loc n, .int m] st = .ok (.int d) (st.set n (.lst [.lst (ns.map .int), .int a', .int p', .bl f'])) := by
  obtain ⟨t', a', p', f', h0, h2⟩ := zhX k hns (m := m) (u := none) 64 99999 0 a p f st (by omega) (by omega) ha h
  refine ⟨p' % m, a', p' / m, f', Int.emod_nonneg _ (by omega), Int.emod_lt_of_pos _ hm, h0, ?_⟩
  have hb : f_qtake.body = .cons (.asg (.n 2) (.cst (.int 0))) (.cons (.while takeC takeB) (.cons (.asg (.n 3) (.bin .mod (.idx (.var 0) (.cst (.int 2))) (.var 1))) (.cons (.six (.var 0) (.cst (.int 2)) (.bin .fdiv (.idx (.var 0) (.cst (.int 2))) (.var 1))) (.cons (.ret (.var 3)) .nil)))) := rfl
  have hT : T zjf = some ⟨2, 4, false, f_qtake.body⟩ := rfl
  rw [callT, hT, hb]
  simp only [List.length_cons, List.length_nil, if_true, List.map_cons, List.map_nil, Nat.reduceSub, List.replicate, List.cons_append, List.nil_append, xs_cons, xs_nil, x_asg, zoZ, ziq, x_ret, thenF, nxO, stO, ev.eq_1, ev.eq_2, ev.eq_3, ev.eq_16, R.fl, R.bind, bindT, List.set_cons_zero, List.set_cons_succ, List.getElem?_cons_zero, List.getElem?_cons_succ, h2, rdS h, idxV, idxI, at?, ixI, binV, binI, hm, hm2, and_self, toR, sixV]
  simp [rdS h, hm, hm2]
end WK
namespace WK
open IC PySem
def Drw (ns : List Int) (n : Nat) (st : Store) : Prop := ∃ a p f, 0 <= a /\ st[n]? = some (.lst [.lst (ns.map .int), .int a, .int p, .bl f])
def Onl (ns : List Int) (n : Nat) (st st' : Store) : Prop := ∃ a p f, 0 <= a /\ st' = st.set n (.lst [.lst (ns.map .int), .int a, .int p, .bl f])
theorem Onl.drw {ns : List Int} {n : Nat} {st st' : Store} (h : Drw ns n st) (o : Onl ns n st st') : Drw ns n st' := by
  obtain ⟨a, p, f, ha, h⟩ := h
  obtain ⟨b, q, g, hb, rfl⟩ := o
  exact ⟨b, q, g, hb, rdS h⟩
theorem Onl.trans {ns : List Int} {n : Nat} {st st1 st2 : Store} (o : Onl ns n st st1) (o2 : Onl ns n st1 st2) : Onl ns n st st2 := by
  obtain ⟨b, q, g, hb, rfl⟩ := o
  obtain ⟨c, r, j, hc, rfl⟩ := o2
  exact ⟨c, r, j, hc, by rw [List.set_set]⟩
theorem takeD (k : Nat) {n : Nat} {ns : List Int} (hns : ns.length <= 1000) {m : Int} (hm : 0 < m) (hm2 : m < 10000000000000000000000000000000000000000000000000000000000000000000000) {st : Store} (h : Drw ns n st) :
    ∃ d st', 0 <= d /\ d < m /\ Onl ns n st st' /\ callT T (k + 3) zjf [.loc n, .int m] st = .ok (.int d) st' := by
  obtain ⟨a, p, f, ha, h⟩ := h
  obtain ⟨d, a', p', f', h1, h2, h3, h4⟩ := take k n ns hns a p m ha hm hm2 f st h
  exact ⟨d, _, h1, h2, ⟨_, _, _, h3, rfl⟩, h4⟩
theorem sizes (k : Nat) {n : Nat} {ns : List Int} (hns : ns.length <= 1000) {m : Int} (hm : 0 < m) (hm2 : m <= 100) {st : Store} (h : Drw ns n st) :
    ∃ w z st', 4 <= w /\ w <= 16 /\ 1 <= z /\ z <= m /\ Onl ns n st st' /\ callT T (k + 4) zhe [.loc n, .int m] st = .ok (.tup [.int w, .int z]) st' := by
  obtain ⟨d, s1, d1, d2, o1, e1⟩ := takeD k hns (m := 13) (by omega) (by omega) h
  obtain ⟨e, s2, d3, d4, o2, e2⟩ := takeD k hns (m := m) hm (by omega) (o1.drw h)
  refine ⟨4 + d, 1 + e, s2, by omega, by omega, by omega, by omega, o1.trans o2, ?_⟩
  have hT : T zhe = some zfB := rfl
  rw [callT, hT]
  simp only [zfB, List.length_cons, List.length_nil, if_true, List.map_cons, List.map_nil, Nat.reduceSub, List.replicate, List.cons_append, List.nil_append, xs_cons, xs_nil, x_ret, thenF, ev.eq_1, ev.eq_2, ev.eq_3, ev.eq_11, ev.eq_18, evs, R.fl, R.bind, List.getElem?_cons_zero, List.getElem?_cons_succ, e1, e2, binV, binI, toR]
  simp [sizeMax]
theorem fresh (k : Nat) (ns : List Int) (h : ns.length <= 63) (st : Store) : ∃ v, callT T (k + 1) zha [.scr (ns.map .int)] st = .ok (.loc st.length) (st ++ [v]) /\ v = .lst [.lst (ns.map .int), .int 0, .int 0, .bl false] := by
  have hT : T zha = some zfL := rfl
  refine ⟨_, ?_, rfl⟩
  rw [callT, hT]
  simp only [zfL, List.length_cons, List.length_nil, if_true, List.map_cons, List.map_nil, Nat.reduceSub, List.replicate, List.cons_append, List.nil_append, xs_cons, xs_nil, x_ret, thenF, ev, evs, R.fl, R.bind, List.getElem?_cons_zero, toR]
  have hc : slcV (.scr (ns.map PV.int)) none (.int 63) = some (.lst (ns.map .int)) := by
    have hk : clampI ns.length 63 = ns.length := by
      show min 63 ns.length = ns.length
      omega
    simp [slcV, optI, slcO, cut, loOf, hiOf, hk]
    try rw [<- List.length_map (f := PV.int), List.take_length]
  simp [optI, onP, hc, sizeMax]
end WK
namespace WK
open IC
theorem zfI (K : Nat) : (0 : Int) < 2 ^ K := Int.pow_pos (by omega)
def worthR : Css := match f_qworth.body with
  | .cons _ (.cons _ (.cons _ r)) => r
  | _ => .nil
theorem zkI {c : Cl} {n : Nat} {w z kd m : Int} {u5 u6 u7 u8 u9 u10 u11 u12 : Option PV} {st : Store} (h0 : 0 <= kd) (h6 : kd < 6) (hm : 16 <= m) :
    ∃ x, 0 <= x /\ x < m /\ exs c [some (.loc n), some (.int w), some (.int z), some (.int kd), some (.int m), u5, u6, u7, u8, u9, u10, u11, u12] st worthR = .rt (.int x) st := by
  have hk : kd = 0 \/ kd = 1 \/ kd = 2 \/ kd = 3 \/ kd = 4 \/ kd = 5 := by omega
  rcases hk with rfl | rfl | rfl | rfl | rfl | rfl
  · refine ⟨0, by omega, by omega, ?_⟩
    dsimp! [worthR, f_qworth, x_asg, x_ret, ev.eq_11, bindT]
    simp [sizeMax]
  · refine ⟨1, by omega, by omega, ?_⟩
    dsimp! [worthR, f_qworth, x_asg, x_ret, ev.eq_11, bindT]
    simp [sizeMax]
  · refine ⟨m - 1, by omega, by omega, ?_⟩
    dsimp! [worthR, f_qworth, x_asg, x_ret, ev.eq_11, bindT]
    simp [sizeMax]
  · refine ⟨m / 2, by omega, by omega, ?_⟩
    dsimp! [worthR, f_qworth, x_asg, x_ret, ev.eq_11, bindT]
    simp [sizeMax]
  · refine ⟨m / 2 - 1, by omega, by omega, ?_⟩
    dsimp! [worthR, f_qworth, x_asg, x_ret, ev.eq_11, bindT]
    simp [sizeMax]
  · refine ⟨m - 2, by omega, by omega, ?_⟩
    dsimp! [worthR, f_qworth, x_asg, x_ret, ev.eq_11, bindT]
    simp [sizeMax]
theorem zlM (k : Nat) {n : Nat} {ns : List Int} (hns : ns.length <= 1000) {w z kd m : Int} {u5 u6 u7 u8 u9 u10 u11 u12 : Option PV} {st : Store} (h : Drw ns n st) (h9 : 9 < kd) (hm : 16 <= m) (hm2 : m <= 18446744073709551616) :
    ∃ x st', 0 <= x /\ x < m /\ Onl ns n st st' /\ exs (callT T (k + 3)) [some (.loc n), some (.int w), some (.int z), some (.int kd), some (.int m), u5, u6, u7, u8, u9, u10, u11, u12] st worthR = .rt (.int x) st' := by
  obtain ⟨d, s1, d1, d2, o1, e1⟩ := takeD k hns (m := m) (by omega) (by omega) h
  refine ⟨d, s1, d1, d2, o1, ?_⟩
  have k1 : ¬ kd < 6 := by omega
  have k2 : (kd == 6) = false := by simp; omega
  have k3 : (kd == 7) = false := by simp; omega
  dsimp! [worthR, f_qworth, xs_nil, x_asg, x_ret, zgw, evi, rng1, toL, ev.eq_11, ev.eq_18, bindT, CMulB, e1, h9, k1]
  simp [sizeMax, e1, h9, k1, k2, k3, zc8, peq]
theorem zj5 (k : Nat) {n : Nat} {ns : List Int} (hns : ns.length <= 1000) {w z kd m : Int} {u5 u6 u7 u8 u9 u10 u11 u12 : Option PV} {st : Store} (h : Drw ns n st) (hk : kd = 6 \/ kd = 7) (hw : 4 <= w) (hw2 : w <= 16) (hz : 1 <= z) (hz2 : z <= 4) (hm : m = 2 ^ (w * z).toNat) :
    ∃ x st', 0 <= x /\ x < m /\ Onl ns n st st' /\ exs (callT T (k + 3)) [some (.loc n), some (.int w), some (.int z), some (.int kd), some (.int m), u5, u6, u7, u8, u9, u10, u11, u12] st worthR = .rt (.int x) st' := by
  have hwz : 4 <= w * z := by
    have := Int.mul_le_mul hw hz (by omega) (by omega); omega
  have hwz2 : w * z <= 64 := by
    have := Int.mul_le_mul hw2 hz2 (by omega) (by omega); omega
  have hm1 : 0 < m := hm ▸ zfI _
  have hm2 : m <= 18446744073709551616 := by
    have h64 : (2 : Nat) ^ (w * z).toNat <= 2 ^ 64 := Nat.pow_le_pow_right (by omega) (by omega)
    have h65 : ((2 ^ (w * z).toNat : Nat) : Int) = 2 ^ (w * z).toNat := by simp
    rw [hm, <- h65]
    omega
  obtain ⟨d, s1, d1, d2, o1, e1⟩ := takeD k hns (m := m) (by omega) (by omega) h
  obtain ⟨e, s2, d3, d4, o2, e2⟩ := takeD k hns (m := w * z) (by omega) (by omega) (o1.drw h)
  have hj : (2 : Int) ^ e.toNat < m := by
    rw [hm]; exact Int.pow_lt_pow_of_lt (by omega) (by omega)
  have hj1 := zfI e.toNat
  have hj2 : (2 : Int) ^ e.toNat < 10000000000000000000000000000000000000000000000000000000000000000000000 := by omega
  have hj3 : ((2 : Int) ^ e.toNat).natAbs < 18446744073709551616 := by omega
  have hj4 : (2 : Nat) ^ e.toNat < 18446744073709551616 := by
    have h65 : ((2 ^ e.toNat : Nat) : Int) = 2 ^ e.toNat := by simp
    omega
  have hwa : w.natAbs < 18446744073709551616 := by omega
  have hea : e.natAbs < 1000000000 := by omega
  rcases hk with rfl | rfl
  · obtain ⟨u, hd, _⟩ := dbl (call := callT T (k + 3)) (i := 8) (j := 5) (by omega) e.toNat 0 [some (.loc n), some (.int w), some (.int z), some (.int 6), some (.int m), u5, some (.tup [.int 0, .int 1, .int (m - 1), .int (m / 2), .int (m / 2 - 1), .int (m - 2)]), some (.int d), some (.int 1), u9, u10, u11, u12] 1 s2 rfl
    refine ⟨d / 2 ^ e.toNat * 2 ^ e.toNat, s2, Int.mul_nonneg (Int.ediv_nonneg d1 (by omega)) (by omega), Int.lt_of_le_of_lt (Int.ediv_mul_le d (by omega)) d2, o1.trans o2, ?_⟩
    dsimp! [worthR, f_qworth, xs_nil, x_asg, x_ret, zgw, evi, rng1, toL, ev.eq_11, ev.eq_18, bindT, CMulB, e1, e2]
    simp [sizeMax, zc8, peq, e1, e2, hwa, hea, hd, hj1, hj2, hj3, hj4]
  · obtain ⟨u, hd, _⟩ := dbl (call := callT T (k + 3)) (i := 8) (j := 5) (by omega) e.toNat 0 [some (.loc n), some (.int w), some (.int z), some (.int 7), some (.int m), u5, some (.tup [.int 0, .int 1, .int (m - 1), .int (m / 2), .int (m / 2 - 1), .int (m - 2)]), some (.int d), some (.int 1), u9, u10, u11, u12] 1 s2 rfl
    refine ⟨m - 2 ^ e.toNat, s2, by omega, by omega, o1.trans o2, ?_⟩
    dsimp! [worthR, f_qworth, xs_nil, x_asg, x_ret, zgw, evi, rng1, toL, ev.eq_11, ev.eq_18, bindT, CMulB, e1, e2]
    simp [sizeMax, zc8, peq, e1, e2, hwa, hea, hd, hj1, hj2, hj3, hj4]
end WK
namespace WK
open IC PySem
theorem ziB : cmpV .eq (.str (Str.ofString "mark")) (.str (Str.ofString "mark")) = some (.bl true) := by with_unfolding_all rfl
theorem zjh : cmpV .eq (.str (Str.ofString "mark")) (.str (Str.ofString "ask")) = some (.bl false) := by with_unfolding_all rfl
theorem ziR : cmpV .eq (.str (Str.ofString "mark")) (.str (Str.ofString "set")) = some (.bl false) := by with_unfolding_all rfl
theorem zhw : cmpV .eq (.str (Str.ofString "mark")) (.str (Str.ofString "times")) = some (.bl false) := by with_unfolding_all rfl
theorem zi7 : cmpV .eq (.str (Str.ofString "mark")) (.str (Str.ofString "sum")) = some (.bl false) := by with_unfolding_all rfl
theorem zih : cmpV .eq (.str (Str.ofString "mark")) (.str (Str.ofString "less")) = some (.bl false) := by with_unfolding_all rfl
theorem zin : cmpV .eq (.str (Str.ofString "mark")) (.str (Str.ofString "both")) = some (.bl false) := by with_unfolding_all rfl
theorem zjk : cmpV .eq (.str (Str.ofString "mark")) (.str (Str.ofString "any")) = some (.bl false) := by with_unfolding_all rfl
theorem ziL : cmpV .eq (.str (Str.ofString "mark")) (.str (Str.ofString "odd")) = some (.bl false) := by with_unfolding_all rfl
theorem zi0 : cmpV .eq (.str (Str.ofString "ask")) (.str (Str.ofString "mark")) = some (.bl false) := by with_unfolding_all rfl
theorem zjW : cmpV .eq (.str (Str.ofString "ask")) (.str (Str.ofString "ask")) = some (.bl true) := by with_unfolding_all rfl
theorem zkK : cmpV .eq (.str (Str.ofString "ask")) (.str (Str.ofString "set")) = some (.bl false) := by with_unfolding_all rfl
theorem zh8 : cmpV .eq (.str (Str.ofString "ask")) (.str (Str.ofString "times")) = some (.bl false) := by with_unfolding_all rfl
theorem zku : cmpV .eq (.str (Str.ofString "ask")) (.str (Str.ofString "sum")) = some (.bl false) := by with_unfolding_all rfl
theorem ziT : cmpV .eq (.str (Str.ofString "ask")) (.str (Str.ofString "less")) = some (.bl false) := by with_unfolding_all rfl
theorem ziF : cmpV .eq (.str (Str.ofString "ask")) (.str (Str.ofString "both")) = some (.bl false) := by with_unfolding_all rfl
theorem zkh : cmpV .eq (.str (Str.ofString "ask")) (.str (Str.ofString "any")) = some (.bl false) := by with_unfolding_all rfl
theorem zkf : cmpV .eq (.str (Str.ofString "ask")) (.str (Str.ofString "odd")) = some (.bl false) := by with_unfolding_all rfl
theorem zi1 : cmpV .eq (.str (Str.ofString "set")) (.str (Str.ofString "mark")) = some (.bl false) := by with_unfolding_all rfl
theorem zkC : cmpV .eq (.str (Str.ofString "set")) (.str (Str.ofString "ask")) = some (.bl false) := by with_unfolding_all rfl
theorem zkx : cmpV .eq (.str (Str.ofString "set")) (.str (Str.ofString "set")) = some (.bl true) := by with_unfolding_all rfl
theorem zhV : cmpV .eq (.str (Str.ofString "set")) (.str (Str.ofString "times")) = some (.bl false) := by with_unfolding_all rfl
theorem zkH : cmpV .eq (.str (Str.ofString "set")) (.str (Str.ofString "sum")) = some (.bl false) := by with_unfolding_all rfl
theorem zji : cmpV .eq (.str (Str.ofString "set")) (.str (Str.ofString "less")) = some (.bl false) := by with_unfolding_all rfl
theorem ziW : cmpV .eq (.str (Str.ofString "set")) (.str (Str.ofString "both")) = some (.bl false) := by with_unfolding_all rfl
theorem zkc : cmpV .eq (.str (Str.ofString "set")) (.str (Str.ofString "any")) = some (.bl false) := by with_unfolding_all rfl
theorem zkw : cmpV .eq (.str (Str.ofString "set")) (.str (Str.ofString "odd")) = some (.bl false) := by with_unfolding_all rfl
theorem zfm : cmpV .eq (.str (Str.ofString "move")) (.str (Str.ofString "mark")) = some (.bl false) := by with_unfolding_all rfl
theorem zgn : cmpV .eq (.str (Str.ofString "move")) (.str (Str.ofString "ask")) = some (.bl false) := by with_unfolding_all rfl
theorem zgf : cmpV .eq (.str (Str.ofString "move")) (.str (Str.ofString "set")) = some (.bl false) := by with_unfolding_all rfl
theorem zfc : cmpV .eq (.str (Str.ofString "move")) (.str (Str.ofString "move")) = some (.bl true) := by with_unfolding_all rfl
theorem zfg : cmpV .eq (.str (Str.ofString "move")) (.str (Str.ofString "bare")) = some (.bl false) := by with_unfolding_all rfl
theorem zeq : cmpV .eq (.str (Str.ofString "move")) (.str (Str.ofString "twice")) = some (.bl false) := by with_unfolding_all rfl
theorem zfl : cmpV .eq (.str (Str.ofString "move")) (.str (Str.ofString "half")) = some (.bl false) := by with_unfolding_all rfl
theorem zfi : cmpV .eq (.str (Str.ofString "bare")) (.str (Str.ofString "mark")) = some (.bl false) := by with_unfolding_all rfl
theorem zfP : cmpV .eq (.str (Str.ofString "bare")) (.str (Str.ofString "ask")) = some (.bl false) := by with_unfolding_all rfl
theorem zgj : cmpV .eq (.str (Str.ofString "bare")) (.str (Str.ofString "set")) = some (.bl false) := by with_unfolding_all rfl
theorem zfe : cmpV .eq (.str (Str.ofString "bare")) (.str (Str.ofString "move")) = some (.bl false) := by with_unfolding_all rfl
theorem zff : cmpV .eq (.str (Str.ofString "bare")) (.str (Str.ofString "bare")) = some (.bl true) := by with_unfolding_all rfl
theorem zeB : cmpV .eq (.str (Str.ofString "bare")) (.str (Str.ofString "twice")) = some (.bl false) := by with_unfolding_all rfl
theorem zfh : cmpV .eq (.str (Str.ofString "bare")) (.str (Str.ofString "half")) = some (.bl false) := by with_unfolding_all rfl
theorem zeF : cmpV .eq (.str (Str.ofString "twice")) (.str (Str.ofString "mark")) = some (.bl false) := by with_unfolding_all rfl
theorem ze6 : cmpV .eq (.str (Str.ofString "twice")) (.str (Str.ofString "ask")) = some (.bl false) := by with_unfolding_all rfl
theorem ze3 : cmpV .eq (.str (Str.ofString "twice")) (.str (Str.ofString "set")) = some (.bl false) := by with_unfolding_all rfl
theorem zeH : cmpV .eq (.str (Str.ofString "twice")) (.str (Str.ofString "move")) = some (.bl false) := by with_unfolding_all rfl
theorem zef : cmpV .eq (.str (Str.ofString "twice")) (.str (Str.ofString "bare")) = some (.bl false) := by with_unfolding_all rfl
theorem zdN : cmpV .eq (.str (Str.ofString "twice")) (.str (Str.ofString "twice")) = some (.bl true) := by with_unfolding_all rfl
theorem zew : cmpV .eq (.str (Str.ofString "twice")) (.str (Str.ofString "half")) = some (.bl false) := by with_unfolding_all rfl
theorem zfa : cmpV .eq (.str (Str.ofString "half")) (.str (Str.ofString "mark")) = some (.bl false) := by with_unfolding_all rfl
theorem zgl : cmpV .eq (.str (Str.ofString "half")) (.str (Str.ofString "ask")) = some (.bl false) := by with_unfolding_all rfl
theorem zgh : cmpV .eq (.str (Str.ofString "half")) (.str (Str.ofString "set")) = some (.bl false) := by with_unfolding_all rfl
theorem ze8 : cmpV .eq (.str (Str.ofString "half")) (.str (Str.ofString "move")) = some (.bl false) := by with_unfolding_all rfl
theorem zfd : cmpV .eq (.str (Str.ofString "half")) (.str (Str.ofString "bare")) = some (.bl false) := by with_unfolding_all rfl
theorem zej : cmpV .eq (.str (Str.ofString "half")) (.str (Str.ofString "twice")) = some (.bl false) := by with_unfolding_all rfl
theorem ze9 : cmpV .eq (.str (Str.ofString "half")) (.str (Str.ofString "half")) = some (.bl true) := by with_unfolding_all rfl
theorem ziK : cmpV .eq (.str (Str.ofString "sum")) (.str (Str.ofString "mark")) = some (.bl false) := by with_unfolding_all rfl
theorem zkb : cmpV .eq (.str (Str.ofString "sum")) (.str (Str.ofString "ask")) = some (.bl false) := by with_unfolding_all rfl
theorem zkd : cmpV .eq (.str (Str.ofString "sum")) (.str (Str.ofString "set")) = some (.bl false) := by with_unfolding_all rfl
theorem zhP : cmpV .eq (.str (Str.ofString "sum")) (.str (Str.ofString "times")) = some (.bl false) := by with_unfolding_all rfl
theorem zkv : cmpV .eq (.str (Str.ofString "sum")) (.str (Str.ofString "sum")) = some (.bl true) := by with_unfolding_all rfl
theorem ziI : cmpV .eq (.str (Str.ofString "sum")) (.str (Str.ofString "less")) = some (.bl false) := by with_unfolding_all rfl
theorem ziJ : cmpV .eq (.str (Str.ofString "sum")) (.str (Str.ofString "both")) = some (.bl false) := by with_unfolding_all rfl
theorem zky : cmpV .eq (.str (Str.ofString "sum")) (.str (Str.ofString "any")) = some (.bl false) := by with_unfolding_all rfl
theorem zkt : cmpV .eq (.str (Str.ofString "sum")) (.str (Str.ofString "odd")) = some (.bl false) := by with_unfolding_all rfl
theorem zif : cmpV .eq (.str (Str.ofString "less")) (.str (Str.ofString "mark")) = some (.bl false) := by with_unfolding_all rfl
theorem zjd : cmpV .eq (.str (Str.ofString "less")) (.str (Str.ofString "ask")) = some (.bl false) := by with_unfolding_all rfl
theorem ziH : cmpV .eq (.str (Str.ofString "less")) (.str (Str.ofString "set")) = some (.bl false) := by with_unfolding_all rfl
theorem zhk : cmpV .eq (.str (Str.ofString "less")) (.str (Str.ofString "times")) = some (.bl false) := by with_unfolding_all rfl
theorem ziM : cmpV .eq (.str (Str.ofString "less")) (.str (Str.ofString "sum")) = some (.bl false) := by with_unfolding_all rfl
theorem zir : cmpV .eq (.str (Str.ofString "less")) (.str (Str.ofString "less")) = some (.bl true) := by with_unfolding_all rfl
theorem zio : cmpV .eq (.str (Str.ofString "less")) (.str (Str.ofString "both")) = some (.bl false) := by with_unfolding_all rfl
theorem zi4 : cmpV .eq (.str (Str.ofString "less")) (.str (Str.ofString "any")) = some (.bl false) := by with_unfolding_all rfl
theorem ziP : cmpV .eq (.str (Str.ofString "less")) (.str (Str.ofString "odd")) = some (.bl false) := by with_unfolding_all rfl
theorem zh1 : cmpV .eq (.str (Str.ofString "both")) (.str (Str.ofString "mark")) = some (.bl false) := by with_unfolding_all rfl
theorem zjc : cmpV .eq (.str (Str.ofString "both")) (.str (Str.ofString "ask")) = some (.bl false) := by with_unfolding_all rfl
theorem ziU : cmpV .eq (.str (Str.ofString "both")) (.str (Str.ofString "set")) = some (.bl false) := by with_unfolding_all rfl
theorem zhi : cmpV .eq (.str (Str.ofString "both")) (.str (Str.ofString "times")) = some (.bl false) := by with_unfolding_all rfl
theorem ziZ : cmpV .eq (.str (Str.ofString "both")) (.str (Str.ofString "sum")) = some (.bl false) := by with_unfolding_all rfl
theorem zhI : cmpV .eq (.str (Str.ofString "both")) (.str (Str.ofString "less")) = some (.bl false) := by with_unfolding_all rfl
theorem ziw : cmpV .eq (.str (Str.ofString "both")) (.str (Str.ofString "both")) = some (.bl true) := by with_unfolding_all rfl
theorem ziO : cmpV .eq (.str (Str.ofString "both")) (.str (Str.ofString "any")) = some (.bl false) := by with_unfolding_all rfl
theorem zjj : cmpV .eq (.str (Str.ofString "both")) (.str (Str.ofString "odd")) = some (.bl false) := by with_unfolding_all rfl
theorem zjb : cmpV .eq (.str (Str.ofString "any")) (.str (Str.ofString "mark")) = some (.bl false) := by with_unfolding_all rfl
theorem zjV : cmpV .eq (.str (Str.ofString "any")) (.str (Str.ofString "ask")) = some (.bl false) := by with_unfolding_all rfl
theorem zkA : cmpV .eq (.str (Str.ofString "any")) (.str (Str.ofString "set")) = some (.bl false) := by with_unfolding_all rfl
theorem ziz : cmpV .eq (.str (Str.ofString "any")) (.str (Str.ofString "times")) = some (.bl false) := by with_unfolding_all rfl
theorem zka : cmpV .eq (.str (Str.ofString "any")) (.str (Str.ofString "sum")) = some (.bl false) := by with_unfolding_all rfl
theorem ziN : cmpV .eq (.str (Str.ofString "any")) (.str (Str.ofString "less")) = some (.bl false) := by with_unfolding_all rfl
theorem zje : cmpV .eq (.str (Str.ofString "any")) (.str (Str.ofString "both")) = some (.bl false) := by with_unfolding_all rfl
theorem zke : cmpV .eq (.str (Str.ofString "any")) (.str (Str.ofString "any")) = some (.bl true) := by with_unfolding_all rfl
theorem zkm : cmpV .eq (.str (Str.ofString "any")) (.str (Str.ofString "odd")) = some (.bl false) := by with_unfolding_all rfl
theorem ziQ : cmpV .eq (.str (Str.ofString "odd")) (.str (Str.ofString "mark")) = some (.bl false) := by with_unfolding_all rfl
theorem zkL : cmpV .eq (.str (Str.ofString "odd")) (.str (Str.ofString "ask")) = some (.bl false) := by with_unfolding_all rfl
theorem zkn : cmpV .eq (.str (Str.ofString "odd")) (.str (Str.ofString "set")) = some (.bl false) := by with_unfolding_all rfl
theorem zis : cmpV .eq (.str (Str.ofString "odd")) (.str (Str.ofString "times")) = some (.bl false) := by with_unfolding_all rfl
theorem zj7 : cmpV .eq (.str (Str.ofString "odd")) (.str (Str.ofString "sum")) = some (.bl false) := by with_unfolding_all rfl
theorem ziX : cmpV .eq (.str (Str.ofString "odd")) (.str (Str.ofString "less")) = some (.bl false) := by with_unfolding_all rfl
theorem zi5 : cmpV .eq (.str (Str.ofString "odd")) (.str (Str.ofString "both")) = some (.bl false) := by with_unfolding_all rfl
theorem zkq : cmpV .eq (.str (Str.ofString "odd")) (.str (Str.ofString "any")) = some (.bl false) := by with_unfolding_all rfl
theorem zj3 : cmpV .eq (.str (Str.ofString "odd")) (.str (Str.ofString "odd")) = some (.bl true) := by with_unfolding_all rfl
theorem mok {st : Store} {n L : Nat} {M : Mem} (h : Dc st n M L) : mthOk .get st (.loc n) = some true := by
  obtain ⟨kvs, h1, h2, h3, h4⟩ := h
  simp [mthOk, dctOf, h1]
theorem zb8 : T zk4 = some zbh := rfl
theorem zjS : T zi6 = some zbl := rfl
theorem len3 {a b c : PV} {st : Store} {k : Bool} : bltV .len st [.tp k [a, b, c]] = some (.int 3) := rfl
theorem len4 {a b c d : PV} {st : Store} {k : Bool} : bltV .len st [.tp k [a, b, c, d]] = some (.int 4) := rfl
theorem c33 : cmpV .eq (.int 3) (.int 3) = some (.bl true) := rfl
theorem c43 : cmpV .eq (.int 4) (.int 3) = some (.bl false) := rfl
def Done (k n : Nat) (st : Store) (M : Mem) (L : Nat) (W m : Int) (r : Rw) : Prop := ∃ st', callT T (k + 2) zk4 [.loc n, .int m, rowV r, .int W] st = .ok (.int (stepM W M m r).2) st' /\ (∃ o, st' = st.set n o) /\ Dc st' n (stepM W M m r).1 (L + 1)
theorem zhn {st : Store} {n L : Nat} {M : Mem} (h : Dc st n M L) : ∃ o, st = st.set n o := by
  obtain ⟨kvs, h1, _⟩ := h
  exact ⟨_, zjN h1⟩
theorem zlP {st : Store} {n L : Nat} {M : Mem} (h : Dc st n M L) : Dc st n M (L + 1) := by
  obtain ⟨kvs, h1, h2, h3, h4⟩ := h
  exact ⟨kvs, h1, h2, h3, by omega⟩
theorem zme (k : Nat) {n : Nat} {st : Store} {M : Mem} {L : Nat} {W m : Int} (h : Dc st n M L) (hL : L < 999999) (hW : 0 < W) (hW2 : W < 18446744073709551616) (d : Int) : Done k n st M L W m (.mark d) := by
  have hW3 : W < 18446744073709551616 * 18446744073709551616 := by omega
  have hW4 : (W / 2).natAbs < 18446744073709551616 := by omega
  refine ⟨st, ?_, zhn h, zlP h⟩
  rw [callT, zb8]
  simp! [zbh, rowV, celV, ziB, zjh, ziR, zhw, zi7, zih, zin, zjk, ziL, mok h, zcu hW, zct hW hW3, za8 hW4, c33, c43, len3, len4]
  first | rfl | (simp only [stepM, rd]; done)
theorem zm1 (k : Nat) {n : Nat} {st : Store} {M : Mem} {L : Nat} {W m : Int} (h : Dc st n M L) (hL : L < 999999) (hW : 0 < W) (hW2 : W < 18446744073709551616) (x : Cel) : Done k n st M L W m (.ask x) := by
  have hW3 : W < 18446744073709551616 * 18446744073709551616 := by omega
  have hW4 : (W / 2).natAbs < 18446744073709551616 := by omega
  refine ⟨st, ?_, zhn h, zlP h⟩
  have gx := zaF h x.1 x.2
  rw [callT, zb8]
  simp! [zbh, rowV, celV, zi0, zjW, zkK, zh8, zku, ziT, ziF, zkh, zkf, gx, mok h, zcu hW, zct hW hW3, za8 hW4, c33, c43, len3, len4]
  first | rfl | (simp only [stepM, rd]; done)
theorem zmN (k : Nat) {n : Nat} {st : Store} {M : Mem} {L : Nat} {W m : Int} (h : Dc st n M L) (hL : L < 999999) (hW : 0 < W) (hW2 : W < 18446744073709551616) (t : Cel) (d : Int) : Done k n st M L W m (.set t d) := by
  have hW3 : W < 18446744073709551616 * 18446744073709551616 := by omega
  have hW4 : (W / 2).natAbs < 18446744073709551616 := by omega
  obtain ⟨kvs, hp, hd⟩ := zbu h hL t.1 t.2 (d)
  refine ⟨_, ?_, ⟨_, rfl⟩, hd⟩
  rw [callT, zb8]
  simp! [zbh, rowV, celV, zi1, zkC, zkx, zhV, zkH, zji, ziW, zkc, zkw, hp, mok h, zcu hW, zct hW hW3, za8 hW4, c33, c43, len3, len4]
  first | rfl | (simp only [stepM, rd]; done)
theorem zle (k : Nat) {n : Nat} {st : Store} {M : Mem} {L : Nat} {W m : Int} (h : Dc st n M L) (hL : L < 999999) (hW : 0 < W) (hW2 : W < 18446744073709551616) (t x : Cel) : Done k n st M L W m (.move t x) := by
  have hW3 : W < 18446744073709551616 * 18446744073709551616 := by omega
  have hW4 : (W / 2).natAbs < 18446744073709551616 := by omega
  obtain ⟨kvs, hp, hd⟩ := zbu h hL t.1 t.2 (M x.1 x.2)
  refine ⟨_, ?_, ⟨_, rfl⟩, hd⟩
  have gx := zaF h x.1 x.2
  rw [callT, zb8]
  simp! [zbh, rowV, celV, zfm, zgn, zgf, zfc, zfg, zeq, zfl, gx, hp, mok h, zcu hW, zct hW hW3, za8 hW4, c33, c43, len3, len4]
  rw [callT, zjS]
  simp! [zbl, zfm, zgn, zgf, zfc, zfg, zeq, zfl, gx, hp, mok h, zcu hW, zct hW hW3, za8 hW4, c33, c43, len3, len4]
  first | rfl | (simp only [stepM, rd]; done)
theorem zk0 (k : Nat) {n : Nat} {st : Store} {M : Mem} {L : Nat} {W m : Int} (h : Dc st n M L) (hL : L < 999999) (hW : 0 < W) (hW2 : W < 18446744073709551616) (t x : Cel) : Done k n st M L W m (.bare t x) := by
  have hW3 : W < 18446744073709551616 * 18446744073709551616 := by omega
  have hW4 : (W / 2).natAbs < 18446744073709551616 := by omega
  obtain ⟨kvs, hp, hd⟩ := zbu h hL t.1 t.2 (W - 1 - M x.1 x.2)
  refine ⟨_, ?_, ⟨_, rfl⟩, hd⟩
  have gx := zaF h x.1 x.2
  rw [callT, zb8]
  simp! [zbh, rowV, celV, zfi, zfP, zgj, zfe, zff, zeB, zfh, gx, hp, mok h, zcu hW, zct hW hW3, za8 hW4, c33, c43, len3, len4]
  rw [callT, zjS]
  simp! [zbl, zfi, zfP, zgj, zfe, zff, zeB, zfh, gx, hp, mok h, zcu hW, zct hW hW3, za8 hW4, c33, c43, len3, len4]
  first | rfl | (simp only [stepM, rd]; done)
theorem zko (k : Nat) {n : Nat} {st : Store} {M : Mem} {L : Nat} {W m : Int} (h : Dc st n M L) (hL : L < 999999) (hW : 0 < W) (hW2 : W < 18446744073709551616) (t x : Cel) : Done k n st M L W m (.twice t x) := by
  have hW3 : W < 18446744073709551616 * 18446744073709551616 := by omega
  have hW4 : (W / 2).natAbs < 18446744073709551616 := by omega
  obtain ⟨kvs, hp, hd⟩ := zbu h hL t.1 t.2 ((2 * M x.1 x.2 + m) % W)
  refine ⟨_, ?_, ⟨_, rfl⟩, hd⟩
  have gx := zaF h x.1 x.2
  rw [callT, zb8]
  simp! [zbh, rowV, celV, zeF, ze6, ze3, zeH, zef, zdN, zew, gx, hp, mok h, zcu hW, zct hW hW3, za8 hW4, c33, c43, len3, len4]
  rw [callT, zjS]
  simp! [zbl, zeF, ze6, ze3, zeH, zef, zdN, zew, gx, hp, mok h, zcu hW, zct hW hW3, za8 hW4, c33, c43, len3, len4]
  first | rfl | (simp only [stepM, rd]; done)
theorem zlK (k : Nat) {n : Nat} {st : Store} {M : Mem} {L : Nat} {W m : Int} (h : Dc st n M L) (hL : L < 999999) (hW : 0 < W) (hW2 : W < 18446744073709551616) (t x : Cel) : Done k n st M L W m (.half t x) := by
  have hW3 : W < 18446744073709551616 * 18446744073709551616 := by omega
  have hW4 : (W / 2).natAbs < 18446744073709551616 := by omega
  obtain ⟨kvs, hp, hd⟩ := zbu h hL t.1 t.2 (M x.1 x.2 / 2 + m * (W / 2))
  refine ⟨_, ?_, ⟨_, rfl⟩, hd⟩
  have gx := zaF h x.1 x.2
  rw [callT, zb8]
  simp! [zbh, rowV, celV, zfa, zgl, zgh, ze8, zfd, zej, ze9, gx, hp, mok h, zcu hW, zct hW hW3, za8 hW4, c33, c43, len3, len4]
  rw [callT, zjS]
  simp! [zbl, zfa, zgl, zgh, ze8, zfd, zej, ze9, gx, hp, mok h, zcu hW, zct hW hW3, za8 hW4, c33, c43, len3, len4]
  first | rfl | (simp only [stepM, rd]; done)
theorem zm5 (k : Nat) {n : Nat} {st : Store} {M : Mem} {L : Nat} {W m : Int} (h : Dc st n M L) (hL : L < 999999) (hW : 0 < W) (hW2 : W < 18446744073709551616) (t x y : Cel) : Done k n st M L W m (.sum t x y) := by
  have hW3 : W < 18446744073709551616 * 18446744073709551616 := by omega
  have hW4 : (W / 2).natAbs < 18446744073709551616 := by omega
  obtain ⟨kvs, hp, hd⟩ := zbu h hL t.1 t.2 ((M x.1 x.2 + M y.1 y.2 + m) % W)
  refine ⟨_, ?_, ⟨_, rfl⟩, hd⟩
  have gx := zaF h x.1 x.2
  have gy := zaF h y.1 y.2
  rw [callT, zb8]
  simp! [zbh, rowV, celV, ziK, zkb, zkd, zhP, zkv, ziI, ziJ, zky, zkt, gx, gy, hp, mok h, zcu hW, zct hW hW3, za8 hW4, c33, c43, len3, len4]
  first | rfl | (simp only [stepM, rd]; done)
theorem zma (k : Nat) {n : Nat} {st : Store} {M : Mem} {L : Nat} {W m : Int} (h : Dc st n M L) (hL : L < 999999) (hW : 0 < W) (hW2 : W < 18446744073709551616) (t x y : Cel) : Done k n st M L W m (.less t x y) := by
  have hW3 : W < 18446744073709551616 * 18446744073709551616 := by omega
  have hW4 : (W / 2).natAbs < 18446744073709551616 := by omega
  obtain ⟨kvs, hp, hd⟩ := zbu h hL t.1 t.2 ((M x.1 x.2 - M y.1 y.2 - m) % W)
  refine ⟨_, ?_, ⟨_, rfl⟩, hd⟩
  have gx := zaF h x.1 x.2
  have gy := zaF h y.1 y.2
  rw [callT, zb8]
  simp! [zbh, rowV, celV, zif, zjd, ziH, zhk, ziM, zir, zio, zi4, ziP, gx, gy, hp, mok h, zcu hW, zct hW hW3, za8 hW4, c33, c43, len3, len4]
  first | rfl | (simp only [stepM, rd]; done)
theorem zk8 (k : Nat) {n : Nat} {st : Store} {M : Mem} {L : Nat} {W m : Int} (h : Dc st n M L) (hL : L < 999999) (hW : 0 < W) (hW2 : W < 18446744073709551616) (t x y : Cel) : Done k n st M L W m (.both t x y) := by
  have hW3 : W < 18446744073709551616 * 18446744073709551616 := by omega
  have hW4 : (W / 2).natAbs < 18446744073709551616 := by omega
  obtain ⟨kvs, hp, hd⟩ := zbu h hL t.1 t.2 (Builtin.bitAnd (M x.1 x.2) (M y.1 y.2))
  refine ⟨_, ?_, ⟨_, rfl⟩, hd⟩
  have gx := zaF h x.1 x.2
  have gy := zaF h y.1 y.2
  rw [callT, zb8]
  simp! [zbh, rowV, celV, zh1, zjc, ziU, zhi, ziZ, zhI, ziw, ziO, zjj, gx, gy, hp, mok h, zcu hW, zct hW hW3, za8 hW4, c33, c43, len3, len4]
  first | rfl | (simp only [stepM, rd]; done)
theorem zmK (k : Nat) {n : Nat} {st : Store} {M : Mem} {L : Nat} {W m : Int} (h : Dc st n M L) (hL : L < 999999) (hW : 0 < W) (hW2 : W < 18446744073709551616) (t x y : Cel) : Done k n st M L W m (.any t x y) := by
  have hW3 : W < 18446744073709551616 * 18446744073709551616 := by omega
  have hW4 : (W / 2).natAbs < 18446744073709551616 := by omega
  obtain ⟨kvs, hp, hd⟩ := zbu h hL t.1 t.2 (Builtin.bitOr (M x.1 x.2) (M y.1 y.2))
  refine ⟨_, ?_, ⟨_, rfl⟩, hd⟩
  have gx := zaF h x.1 x.2
  have gy := zaF h y.1 y.2
  rw [callT, zb8]
  simp! [zbh, rowV, celV, zjb, zjV, zkA, ziz, zka, ziN, zje, zke, zkm, gx, gy, hp, mok h, zcu hW, zct hW hW3, za8 hW4, c33, c43, len3, len4]
  first | rfl | (simp only [stepM, rd]; done)
theorem znc (k : Nat) {n : Nat} {st : Store} {M : Mem} {L : Nat} {W m : Int} (h : Dc st n M L) (hL : L < 999999) (hW : 0 < W) (hW2 : W < 18446744073709551616) (t x y : Cel) : Done k n st M L W m (.odd t x y) := by
  have hW3 : W < 18446744073709551616 * 18446744073709551616 := by omega
  have hW4 : (W / 2).natAbs < 18446744073709551616 := by omega
  obtain ⟨kvs, hp, hd⟩ := zbu h hL t.1 t.2 (Builtin.bitXor (M x.1 x.2) (M y.1 y.2))
  refine ⟨_, ?_, ⟨_, rfl⟩, hd⟩
  have gx := zaF h x.1 x.2
  have gy := zaF h y.1 y.2
  rw [callT, zb8]
  simp! [zbh, rowV, celV, ziQ, zkL, zkn, zis, zj7, ziX, zi5, zkq, zj3, gx, gy, hp, mok h, zcu hW, zct hW hW3, za8 hW4, c33, c43, len3, len4]
  first | rfl | (simp only [stepM, rd]; done)
theorem zoQ (k : Nat) {n : Nat} {st : Store} {M : Mem} {L : Nat} {W m : Int} (h : Dc st n M L) (hL : L < 999999) (hW : 0 < W) (hW2 : W < 18446744073709551616) (r : Rw) : Done k n st M L W m r := by
  cases r
  · exact zme k h hL hW hW2 _
  · exact zm1 k h hL hW hW2 _
  · exact zmN k h hL hW hW2 _ _
  · exact zle k h hL hW hW2 _ _
  · exact zk0 k h hL hW hW2 _ _
  · exact zko k h hL hW hW2 _ _
  · exact zlK k h hL hW hW2 _ _
  · exact zm5 k h hL hW hW2 _ _ _
  · exact zma k h hL hW hW2 _ _ _
  · exact zk8 k h hL hW hW2 _ _ _
  · exact zmK k h hL hW hW2 _ _ _
  · exact znc k h hL hW hW2 _ _ _
end WK
namespace WK
open IC PySem
def runB : Css := match f_qrun.body with
  | .cons _ (.cons _ (.cons _ (.cons _ (.cons _ (.cons _ (.cons (.for _ _ b) _)))))) => b
  | _ => .nil
theorem zjG (k : Nat) {n : Nat} {W : Int} (hW : 0 < W) (hW2 : W < 18446744073709551616) {p0 p1 p2 p3 p4 p5 : Option PV} : ∀ (rs : List Rw) (M : Mem) (m : Int) (st : Store) (u : Option PV) (L : Nat), Dc st n M L -> L + rs.length < 999999 ->
    ∃ st' u', forB (callT T (k + 2)) (.n 9) runB (rs.map rowV) [p0, p1, p2, p3, p4, p5, some (.loc n), some (.int W), some (.int m), u] st = .nx [p0, p1, p2, p3, p4, p5, some (.loc n), some (.int W), some (.int (runM W rs M m).2), u'] st' /\ (∃ o, st' = st.set n o) /\ Dc st' n (runM W rs M m).1 (L + rs.length)
  | [], M, m, st, u, L, h, _ => ⟨st, u, by rw [List.map_nil, zcy]; rfl, zhn h, h⟩
  | r :: rs, M, m, st, u, L, h, hl => by
    rw [List.length_cons] at hl
    obtain ⟨s1, h1, ⟨o1, h2⟩, h3⟩ := zoQ k (m := m) h (by omega) hW hW2 r
    obtain ⟨s2, u2, e1, ⟨o2, e2⟩, e3⟩ := zjG k hW hW2 (p0 := p0) (p1 := p1) (p2 := p2) (p3 := p3) (p4 := p4) (p5 := p5) rs _ (stepM W M m r).2 s1 (some (rowV r)) (L + 1) h3 (by omega)
    refine ⟨s2, u2, ?_, ⟨o2, by rw [e2, h2, List.set_set]⟩, by rw [List.length_cons, show L + (rs.length + 1) = L + 1 + rs.length by omega]; exact e3⟩
    rw [List.map_cons, zcp (ρ1 := [p0, p1, p2, p3, p4, p5, some (.loc n), some (.int W), some (.int m), some (rowV r)]) rfl]
    have hb : exs (callT T (k + 2)) [p0, p1, p2, p3, p4, p5, some (.loc n), some (.int W), some (.int m), some (rowV r)] st runB = .nx [p0, p1, p2, p3, p4, p5, some (.loc n), some (.int W), some (.int (stepM W M m r).2), some (rowV r)] s1 := by
      simp only [runB, f_qrun, xs_cons, xs_nil, x_asg, ev.eq_18, ev.eq_2, evs, List.getElem?_cons_zero, List.getElem?_cons_succ, bd_ok, fl_ok, h1, bT_n, nxO_some, th_nx, List.set_cons_zero, List.set_cons_succ]
    rw [hb]
    exact e1
theorem zg0 {call : Cl} {W : Int} (hW : 0 < W) (hW2 : W < 18446744073709551616) {p1 p2 : Option PV} : ∀ (n : Nat) (a x : Int) (acc : List PV) (u : Option PV), acc.length + n < 1000000 ->
    ∃ x' u', forB call (.n 5) (.cons (.expr (.mth .append (.var 4) (.cons (.bin .mod (.var 0) (.var 3)) .nil))) (.cons (.asg (.n 0) (.bin .fdiv (.var 0) (.var 3))) .nil)) (rangeL n a 1) [some (.int x), p1, p2, some (.int W), some (.loc 0), u] [.lst acc] = .nx [some (.int x'), p1, p2, some (.int W), some (.loc 0), u'] [.lst (acc ++ (wordsL W n x).map .int)]
  | 0, a, x, acc, u, _ => ⟨x, u, by rw [rangeL, zcy]; simp [wordsL]⟩
  | n + 1, a, x, acc, u, h => by
    obtain ⟨x', u', e⟩ := zg0 (call := call) hW hW2 (p1 := p1) (p2 := p2) n (a + 1) (x / W) (acc ++ [.int (x % W)]) (some (.int a)) (by simp; omega)
    refine ⟨x', u', ?_⟩
    have hW3 : W < 18446744073709551616 * 18446744073709551616 := by omega
    have hl : acc.length < 1000000 := by omega
    rw [rangeL, zcp (ρ1 := [some (.int x), p1, p2, some (.int W), some (.loc 0), some (.int a)]) rfl]
    have hm : mthOk .append [Ob.lst acc] (.loc 0) = some true := rfl
    have hap : mthV .append [Ob.lst acc] (.loc 0) [.int (x % W)] = .ok .non [.lst (acc ++ [.int (x % W)])] := by
      simp [mthV, appV, hl]
    simp only [xs_cons, xs_nil, x_asg, zjl, ev.eq_20, ev.eq_2, ev.eq_3, evs, List.getElem?_cons_zero, List.getElem?_cons_succ, bd_ok, fl_ok, hm, ono, zcu hW, zct hW hW3, toR_some, hap, bT_n, nxO_some, th_nx, List.set_cons_zero, List.set_cons_succ, againF]
    rw [e]
    simp [wordsL]
theorem zmj {z : Int} (h : 0 <= z) : ∃ n : Nat, z = n := ⟨z.toNat, by omega⟩
theorem zd6 : ∀ (l : List Int), noLocs (l.map PV.int) = true
  | [] => rfl
  | x :: l => by simp [noLocs, noLoc, zd6 l]
theorem zfA (n : Nat) (h : n < 1000) : rng1 (.int (n : Int)) = some (rangeL n 0 1) := by
  simp only [rng1]
  rw [if_pos (by omega), Int.toNat_natCast]
theorem words (k : Nat) (x : Int) (w n : Nat) (hw : w <= 16) (hn : n < 1000) (st : Store) : callT T (k + 2) zjI [.int x, .int w, .int n] st = .ok (.tup ((wordsL (2 ^ w) n x).map .int)) st := by
  have hW : (0 : Int) < 2 ^ w := Int.pow_pos (by omega)
  have hW2 : (2 : Int) ^ w < 18446744073709551616 := by
    have h : (2 : Nat) ^ w <= 2 ^ 16 := Nat.pow_le_pow_right (by omega) hw
    have h2 : ((2 ^ w : Nat) : Int) = 2 ^ w := by simp
    omega
  obtain ⟨x', u', e⟩ := zg0 (call := callT T (k + 1)) hW hW2 (p1 := some (.int w)) (p2 := some (.int n)) n 0 x [] none (by simp; omega)
  have ht := zkT k w (by omega) []
  have hT : T zjI = some zfH := rfl
  rw [callT, hT]
  simp_all! [zfH, noLocs, noLoc, Bool.and_self, List.map_cons, List.map_nil, Nat.reduceSub, List.replicate, List.cons_append, List.nil_append, zgw, x_ret, ev.eq_13, ev.eq_19, evi, ht, zfA n hn, toL, Nat.zero_le, sizeMax, e]
  simp [bltV, tupV, lstOf, toR, fl_ok, noLoc, zd6, R.fl, thenF]
end WK
namespace WK
open IC PySem
theorem chA : Str.ofString "a" = chS 97 := by with_unfolding_all rfl
theorem chB : Str.ofString "b" = chS 98 := by with_unfolding_all rfl
theorem chC : Str.ofString "c" = chS 99 := by with_unfolding_all rfl
theorem chM : Str.ofString "m" = chS 109 := by with_unfolding_all rfl
theorem zmd {st : Store} {n L : Nat} {M : Mem} {call : Cl} (h : Dc st n M L) (hL : L < 999999) {ρ : IC.Env} {o i e : Ce} {c : Nat} {j v : Int} (he : ev call ρ st e = .ok (.int v) st) (ho : ev call ρ st o = .ok (.loc n) st) (hi : ev call ρ st i = .ok (cellV c j) st) :
    ∃ kvs, ex call ρ st (.dput o i e) = .nx ρ (st.set n (.dct true kvs)) /\ Dc (st.set n (.dct true kvs)) n (upd M c j v) (L + 1) := by
  obtain ⟨kvs, h1, h2⟩ := zbu h hL c j v
  exact ⟨kvs, by simp only [x_dput, he, ho, hi, fl_ok, h1, stO_some], h2⟩
theorem zfO {call : Cl} {n : Nat} {s : Str} {c : Nat} (hs : s = chS c) {p0 p1 p2 p3 : Option PV} : ∀ (vs : List Int) (i : Nat) (M : Mem) (st : Store) (L : Nat) (u v : Option PV), Dc st n M L -> L + vs.length < 999999 ->
    ∃ st' u' v', forB call (.t [5, 6]) (.cons (.dput (.var 4) (.tup (.cons (.cst (.str s)) (.cons (.var 5) .nil))) (.var 6)) .nil) (pairsUp i (vs.map .int)) [p0, p1, p2, p3, some (.loc n), u, v] st = .nx [p0, p1, p2, p3, some (.loc n), u', v'] st' /\ (∃ o, st' = st.set n o) /\ Dc st' n (fillM c i vs M) (L + vs.length)
  | [], i, M, st, L, u, v, h, _ => ⟨st, u, v, by rw [List.map_nil, pairsUp, zcy], zhn h, h⟩
  | x :: vs, i, M, st, L, u, v, h, hl => by
    rw [List.length_cons] at hl
    obtain ⟨kvs, e1, h1⟩ := zmd (call := call) (ρ := [p0, p1, p2, p3, some (.loc n), some (.int i), some (.int x)]) (o := .var 4) (i := .tup (.cons (.cst (.str s)) (.cons (.var 5) .nil))) (e := .var 6) (c := c) (j := i) (v := x) h (by omega) (by simp only [ev.eq_2, List.getElem?_cons_zero, List.getElem?_cons_succ]) (by simp only [ev.eq_2, List.getElem?_cons_zero, List.getElem?_cons_succ]) (by
      subst hs
      simp only [ev.eq_2, ev.eq_1, ev.eq_11, evs, List.getElem?_cons_zero, List.getElem?_cons_succ, bd_ok, List.length_cons, List.length_nil]
      rw [if_pos (by decide)]
      rfl)
    obtain ⟨s2, u2, v2, e2, ⟨o2, e3⟩, h2⟩ := zfO (call := call) hs (p0 := p0) (p1 := p1) (p2 := p2) (p3 := p3) vs (i + 1) _ _ (L + 1) (some (.int i)) (some (.int x)) h1 (by omega)
    refine ⟨s2, u2, v2, ?_, ⟨o2, by rw [e3, List.set_set]⟩, by rw [List.length_cons, show L + (vs.length + 1) = L + 1 + vs.length by omega]; exact h2⟩
    rw [List.map_cons, pairsUp, zcp (ρ1 := [p0, p1, p2, p3, some (.loc n), some (.int i), some (.int x)]) rfl, xs_cons, e1, th_nx, xs_nil]
    exact e2
theorem begun (k : Nat) (w n : Nat) (hw : w <= 16) (hn : n < 1000) (x y : Int) (st : Store) : ∃ o, callT T (k + 3) zjz [.int w, .int n, .int x, .int y] st = .ok (.loc st.length) (st ++ [o]) /\ Dc (st ++ [o]) st.length (begM (2 ^ w) n x y) (2 * n) := by
  have h0 : Dc (st ++ [.dct true []]) st.length M0 0 := ⟨[], by simp, by simp [AllC], fun c i => rfl, by simp⟩
  have w1 := words k x w n hw hn
  have w2 := words k y w n hw hn
  obtain ⟨s1, u1, v1, e1, ⟨o1, f1⟩, h1⟩ := zfO (call := callT T (k + 2)) chA (p0 := some (.int w)) (p1 := some (.int n)) (p2 := some (.int x)) (p3 := some (.int y)) (wordsL (2 ^ w) n x) 0 M0 _ 0 none none h0 (by rw [zbo]; omega)
  obtain ⟨s2, u2, v2, e2, ⟨o2, f2⟩, h2⟩ := zfO (call := callT T (k + 2)) chB (p0 := some (.int w)) (p1 := some (.int n)) (p2 := some (.int x)) (p3 := some (.int y)) (wordsL (2 ^ w) n y) 0 _ _ _ u1 v1 h1 (by rw [zbo, zbo]; omega)
  have f3 : s2 = st ++ [o2] := by rw [f2, f1, List.set_set]; simp
  rw [zbo, zbo, show 0 + n + n = 2 * n by omega] at h2
  refine ⟨o2, ?_, by rw [<- f3]; exact h2⟩
  have hT : T zjz = some zfK := rfl
  rw [callT, hT, <- f3]
  simp_all! [zfK, Bool.false_eq_true, if_false, List.map_cons, List.map_nil, Nat.reduceSub, List.replicate, List.cons_append, List.nil_append, zgw, x_ret, ev.eq_15, evi, th_rt, w1, w2, e1, e2]
theorem znS {call : Cl} {st : Store} {n L : Nat} {M : Mem} (h : Dc st n M L) {ρ : IC.Env} {o i d : Ce} {c : Nat} {j : Int} (ho : ev call ρ st o = .ok (.loc n) st) (hi : ev call ρ st i = .ok (cellV c j) st) (hd : ev call ρ st d = .ok (.int 0) st) : ev call ρ st (.mth .get o (.cons i (.cons d .nil))) = .ok (.int (M c j)) st := by
  simp only [ev.eq_20, ho, hi, hd, evs, bd_ok, mok h, ono, mget, zaF h]
end WK
namespace WK
open IC PySem
theorem zii {call : Cl} {st : Store} {n L : Nat} {M : Mem} (h : Dc st n M L) {c : Nat} {W : Int} (hW : 0 < W) (hW2 : W < 18446744073709551616) {p2 p3 : Option PV} : ∀ (z : Nat) (acc : Int) (u : Option PV),
    ∃ u', forB call (.n 6) (.cons (.asg (.n 5) (.bin .add (.bin .mul (.var 5) (.var 4)) (.mth .get (.var 0) (.cons (.tup (.cons (.var 1) (.cons (.var 6) .nil))) (.cons (.cst (.int 0)) .nil))))) .nil) (rangeL z ((z : Int) - 1) (-1)) [some (.loc n), some (.str (chS c)), p2, p3, some (.int W), some (.int acc), u] st = .nx [some (.loc n), some (.str (chS c)), p2, p3, some (.int W), some (.int (acc * W ^ z + valM W M c z)), u'] st
  | 0, acc, u => ⟨u, by rw [rangeL, zcy]; simp [valM]⟩
  | z + 1, acc, u => by
    obtain ⟨u', e⟩ := zii (call := call) h (c := c) hW hW2 (p2 := p2) (p3 := p3) z (acc * W + M c z) (some (.int z))
    refine ⟨u', ?_⟩
    have hz : ((z + 1 : Nat) : Int) - 1 = z := by omega
    rw [rangeL, hz, zcp (ρ1 := [some (.loc n), some (.str (chS c)), p2, p3, some (.int W), some (.int acc), some (.int z)]) rfl]
    have hg := znS (call := call) h (ρ := [some (.loc n), some (.str (chS c)), p2, p3, some (.int W), some (.int acc), some (.int z)]) (o := .var 0) (i := .tup (.cons (.var 1) (.cons (.var 6) .nil))) (d := .cst (.int 0)) (c := c) (j := z) (by simp only [ev.eq_2, List.getElem?_cons_zero, List.getElem?_cons_succ]) (by
      simp only [ev.eq_2, ev.eq_1, ev.eq_11, evs, List.getElem?_cons_zero, List.getElem?_cons_succ, bd_ok, List.length_cons, List.length_nil]
      rw [if_pos (by decide)]
      rfl) (by simp only [ev.eq_1])
    have hm : (W).natAbs < 18446744073709551616 := by omega
    simp only [xs_cons, xs_nil, x_asg, ev.eq_3, ev.eq_2, hg, List.getElem?_cons_zero, List.getElem?_cons_succ, bd_ok, fl_ok, za8 hm, b_add, toR_some, bT_n, nxO_some, th_nx, List.set_cons_zero, List.set_cons_succ, againF]
    rw [show (z : Int) + -1 = (z : Int) - 1 by omega, e]
    have hf : (acc * W + M c z) * W ^ z + valM W M c z = acc * W ^ (z + 1) + valM W M c (z + 1) := by
      rw [valM, Int.pow_succ, Int.add_mul, Int.mul_assoc, Int.mul_comm W]
      omega
    rw [hf]
theorem neg1 {call : Cl} {ρ : IC.Env} {st : Store} : ev call ρ st (.neg (.cst (.int 1))) = .ok (.int (-1)) st := by
  with_unfolding_all rfl
theorem read (k : Nat) {st : Store} {n L : Nat} {M : Mem} (h : Dc st n M L) (s : Str) (c : Nat) (hs : s = chS c) (w z : Nat) (hw : w <= 16) (hz : z < 1000) : callT T (k + 2) zkZ [.loc n, .str s, .int z, .int w] st = .ok (.int (valM (2 ^ w) M c z)) st := by
  subst hs
  have hW : (0 : Int) < 2 ^ w := Int.pow_pos (by omega)
  have hW2 : (2 : Int) ^ w < 18446744073709551616 := by
    have h : (2 : Nat) ^ w <= 2 ^ 16 := Nat.pow_le_pow_right (by omega) hw
    have h2 : ((2 ^ w : Nat) : Int) = 2 ^ w := by simp
    omega
  obtain ⟨u', e⟩ := zii (call := callT T (k + 1)) h (c := c) hW hW2 (p2 := some (.int z)) (p3 := some (.int w)) z 0 none
  have ht := zkT k w (by omega) st
  have hT : T zkZ = some zhl := rfl
  have hr : rngD (.int ((z : Int) - 1)) (.int (-1)) = some (rangeL z ((z : Int) - 1) (-1)) := by
    simp only [rngD]
    rw [if_pos ⟨by omega, by decide⟩, show ((z : Int) - 1 - -1).toNat = z by omega]
  rw [callT, hT]
  simp_all! [zhl, Bool.false_eq_true, if_false, List.map_cons, List.map_nil, Nat.reduceSub, List.replicate, List.cons_append, List.nil_append, zgw, x_ret, ev.eq_1, ev.eq_3, neg1, evi, ht, b_sub, toR_some, th_rt, hr, toL, e]
  simp
end WK
namespace WK
open IC PySem
theorem marks (k : Nat) {st : Store} {n L : Nat} {M : Mem} (h : Dc st n M L) : callT T (k + 1) zjC [.loc n] st = .ok (.tup [.int (M 109 0), .int (M 109 1), .int (M 109 2), .int (M 109 3)]) st := by
  have hT : T zjC = some zfD := rfl
  have hc := zil (call := callT T k) (st := st) (ρ0 := [none, some (.loc n)]) (t := .n 0) (c := .cst (.bl true)) (e := .mth .get (.var 1) (.cons (.tup (.cons (.cst (.str (Str.ofString "m"))) (.cons (.var 0) .nil))) (.cons (.cst (.int 0)) .nil))) (f := fun x => match x with | .int i => .int (M 109 i) | _ => .non) [.int 0, .int 1, .int 2, .int 3] (by
    have : ∀ i : Int, oneB (callT T k) [none, some (.loc n)] (.n 0) (.cst (.bl true)) (.mth .get (.var 1) (.cons (.tup (.cons (.cst (.str (Str.ofString "m"))) (.cons (.var 0) .nil))) (.cons (.cst (.int 0)) .nil))) (.int i) st = .ok (some (.int (M 109 i))) st := by
      intro i
      have hg := znS (call := callT T k) h (ρ := [some (.int i), some (.loc n)]) (o := .var 1) (i := .tup (.cons (.cst (.str (Str.ofString "m"))) (.cons (.var 0) .nil))) (d := .cst (.int 0)) (c := 109) (j := i) (by simp only [ev.eq_2, List.getElem?_cons_zero, List.getElem?_cons_succ]) (by
        rw [chM]
        simp only [ev.eq_2, ev.eq_1, ev.eq_11, evs, List.getElem?_cons_zero, List.getElem?_cons_succ, bd_ok, List.length_cons, List.length_nil]
        rw [if_pos (by decide)]
        rfl) (by simp only [ev.eq_1])
      simp only [oneB, bT_n, List.set_cons_zero, hg, ev.eq_1, bd_ok, t_bl, ono, cond_true]
    intro x hx
    simp only [List.mem_cons, List.not_mem_nil, or_false] at hx
    rcases hx with rfl | rfl | rfl | rfl <;> exact this _)
  rw [callT, hT]
  have hr : rng1 (.int 4) = some [.int 0, .int 1, .int 2, .int 3] := rfl
  simp only [zfD, List.length_cons, List.length_nil, Nat.zero_add, Nat.reduceAdd, if_true, Bool.false_eq_true, if_false, List.map_cons, List.map_nil, Nat.reduceSub, List.replicate, List.cons_append, List.append_nil, List.nil_append, xs_cons, xs_nil, x_ret, zpc, ev.eq_1, ev.eq_19, evs, evi, hr, toL, bd_ok, fl_ok, Option.bind_none, Option.bind_some, List.getElem?_cons_zero, Option.join_some, Option.bind_fun_some]
  rw [hc]
  simp [lstR, bd_ok, bltV, tupV, lstOf, toR, R.fl, R.bind, thenF, sizeMax]
end WK
namespace WK
open IC PySem
theorem lift8 {f : Nat} {a : List PV} {s s' : Store} {v : PV} (h : callT T 8 f a s = .ok v s') (j : Nat) : callT T (8 + j) f a s = .ok v s' := zjA h j
theorem zqz (w : Nat) : (0 : Int) < 2 ^ w := Int.pow_pos (by omega)
theorem w_lt {w : Nat} (hw : w <= 16) : (2 : Int) ^ w < 18446744073709551616 := by
  have h : (2 : Nat) ^ w <= 2 ^ 16 := Nat.pow_le_pow_right (by omega) hw
  have h2 : ((2 ^ w : Nat) : Int) = 2 ^ w := by simp
  omega
theorem run (j : Nat) {v : PV} {rs : List Rw} (w n : Nat) (hw : w <= 16) (hn : n < 1000) (hl : rs.length < 5000) (x y : Int) (hv : noLoc v = true)
    (h1 : callT T 8 za6 [v] [] = .ok (.bl true) []) (h2 : callT T 8 zaB [v, .int w, .int n, .int 4000] [] = .ok (.lst (rs.map rowV)) []) (h3 : callT T 8 zac [.lst (rs.map rowV)] [] = .ok (.bl true) []) :
    ∃ o, callT T (8 + j + 1) zn4 [v, .int w, .int n, .int x, .int y] [] = .ok (.loc 0) [o] /\ ∃ L, Dc [o] 0 (runM (2 ^ w) rs (begM (2 ^ w) n x y) 0).1 L := by
  have g1 := lift8 h1 j
  have g2 := lift8 h2 j
  have g3 := lift8 h3 j
  obtain ⟨o, b1, b2⟩ := begun (5 + j) w n hw hn x y []
  rw [show 5 + j + 3 = 8 + j by omega] at b1
  have ht := zkT (7 + j) w (by omega) [o]
  rw [show 7 + j + 1 = 8 + j by omega] at ht
  obtain ⟨s2, u2, e1, ⟨o2, e2⟩, e3⟩ := zjG (6 + j) (zqz w) (w_lt hw) (p0 := some v) (p1 := some (.int w)) (p2 := some (.int n)) (p3 := some (.int x)) (p4 := some (.int y)) (p5 := some (.lst (rs.map rowV))) rs _ 0 _ none _ b2 (by omega)
  rw [show 6 + j + 2 = 8 + j by omega] at e1
  have e4 : s2 = [o2] := by rw [e2]; rfl
  rw [e4] at e1 e3
  simp only [List.nil_append, List.length_nil] at b1 e1 e3
  refine ⟨o2, ?_, _, e3⟩
  have hT : T zn4 = some ⟨5, 10, false, f_qrun.body⟩ := rfl
  have hb : f_qrun.body = (.cons (.ite (.not (.call 35 (.cons (.var 0) .nil))) (.cons .nope .nil) .nil) (.cons (.asg (.n 5) (.call 41 (.cons (.var 0) (.cons (.var 1) (.cons (.var 2) (.cons (.cst (.int 4000)) .nil)))))) (.cons (.ite (.or (.cmp .is (.var 5) (.cst .non)) (.not (.call 42 (.cons (.var 5) .nil)))) (.cons .nope .nil) .nil) (.cons (.asg (.n 6) (.call 43 (.cons (.var 1) (.cons (.var 2) (.cons (.var 3) (.cons (.var 4) .nil)))))) (.cons (.asg (.n 7) (.call 25 (.cons (.var 1) .nil))) (.cons (.asg (.n 8) (.cst (.int 0))) (.cons (.for (.n 9) (.seq (.var 5)) runB) (.cons (.ret (.var 6)) .nil)))))))) := rfl
  have ci : cmpV .is (.lst (rs.map rowV)) .non = some (.bl false) := rfl
  rw [callT, hT, hb]
  simp_all! [Bool.false_eq_true, if_false, List.map_cons, List.map_nil, Nat.reduceSub, List.replicate, List.cons_append, List.nil_append, x_ite, zgw, x_ret, ev.eq_1, ev.eq_5, ev.eq_7, ev.eq_8, evi, g1, g2, g3, ci, b1, ht, toR_some, th_rt, t_bl, on_t, ono, Bool.not_true, cond_false, onBl, e1]
end WK
namespace WK
open IC PySem
theorem Drw.refl {ns : List Int} {n : Nat} {st : Store} (h : Drw ns n st) : Onl ns n st st := by
  obtain ⟨a, p, f, ha, h⟩ := h
  exact ⟨a, p, f, ha, zjN h⟩
def worthB : Css := match worthR with
  | .cons _ (.cons _ (.cons _ (.cons _ (.cons _ (.cons _ (.cons _ (.cons _ (.cons _ (.cons (.for _ _ b) _))))))))) => b
  | _ => .nil
theorem zks (k : Nat) {n : Nat} {ns : List Int} (hns : ns.length <= 1000) {p1 p2 p3 p4 p6 p8 u11 u12 : Option PV} {d W acc a : Int} {st : Store} (h : Drw ns n st) (ha : 0 <= a) (ha2 : a < 1000) (hW : 4 <= W) (hW2 : W < 18446744073709551616) :
    ∃ e st' v11 v12, 0 <= e /\ e < W /\ Onl ns n st st' /\ exs (callT T (k + 3)) [some (.loc n), p1, p2, p3, p4, some (.int a), p6, some (.int d), p8, some (.int W), some (.int acc), u11, u12] st worthB = .nx [some (.loc n), p1, p2, p3, p4, some (.int a), p6, some (.int d), p8, some (.int W), some (.int (acc * W + e)), v11, v12] st' := by
  obtain ⟨t, s1, d1, d2, o1, e1⟩ := takeD k hns (m := 5) (by omega) (by omega) h
  have hW0 : 0 < W := by omega
  have hWm : W.natAbs < 18446744073709551616 := by omega
  have ha3 : 0 < a + 1 := by omega
  have ha4 : a + 1 < 18446744073709551616 * 18446744073709551616 := by omega
  have q0 := Int.emod_nonneg (d / (a + 1)) (show W ≠ 0 by omega)
  have q1 := Int.emod_lt_of_pos (d / (a + 1)) hW0
  have ht : t = 0 \/ t = 1 \/ t = 2 \/ t = 3 \/ t = 4 := by omega
  rcases ht with rfl | rfl | rfl | rfl | rfl
  · refine ⟨0, s1, some (.int (d / (a + 1) % W)), some (.tup [.int 0, .int 1, .int (W - 1), .int (W / 2), .int (d / (a + 1) % W)]), by omega, by omega, o1, ?_⟩
    simp_all! [worthB, worthR, f_qworth, ev.eq_1, ev.eq_3, ev.eq_11, ev.eq_16, toR_some, b_add, b_sub, zct ha3 ha4, zcu hW0, b_div2, za8 hWm, e1, ix0, ix1, ix2, ix3, ix4, sizeMax, Nat.reduceLeDiff]
  · refine ⟨1, s1, some (.int (d / (a + 1) % W)), some (.tup [.int 0, .int 1, .int (W - 1), .int (W / 2), .int (d / (a + 1) % W)]), by omega, by omega, o1, ?_⟩
    simp_all! [worthB, worthR, f_qworth, ev.eq_1, ev.eq_3, ev.eq_11, ev.eq_16, toR_some, b_add, b_sub, zct ha3 ha4, zcu hW0, b_div2, za8 hWm, e1, ix0, ix1, ix2, ix3, ix4, sizeMax, Nat.reduceLeDiff]
  · refine ⟨W - 1, s1, some (.int (d / (a + 1) % W)), some (.tup [.int 0, .int 1, .int (W - 1), .int (W / 2), .int (d / (a + 1) % W)]), by omega, by omega, o1, ?_⟩
    simp_all! [worthB, worthR, f_qworth, ev.eq_1, ev.eq_3, ev.eq_11, ev.eq_16, toR_some, b_add, b_sub, zct ha3 ha4, zcu hW0, b_div2, za8 hWm, e1, ix0, ix1, ix2, ix3, ix4, sizeMax, Nat.reduceLeDiff]
  · refine ⟨W / 2, s1, some (.int (d / (a + 1) % W)), some (.tup [.int 0, .int 1, .int (W - 1), .int (W / 2), .int (d / (a + 1) % W)]), by omega, by omega, o1, ?_⟩
    simp_all! [worthB, worthR, f_qworth, ev.eq_1, ev.eq_3, ev.eq_11, ev.eq_16, toR_some, b_add, b_sub, zct ha3 ha4, zcu hW0, b_div2, za8 hWm, e1, ix0, ix1, ix2, ix3, ix4, sizeMax, Nat.reduceLeDiff]
  · refine ⟨d / (a + 1) % W, s1, some (.int (d / (a + 1) % W)), some (.tup [.int 0, .int 1, .int (W - 1), .int (W / 2), .int (d / (a + 1) % W)]), q0, q1, o1, ?_⟩
    simp_all! [worthB, worthR, f_qworth, ev.eq_1, ev.eq_3, ev.eq_11, ev.eq_16, toR_some, b_add, b_sub, zct ha3 ha4, zcu hW0, b_div2, za8 hWm, e1, ix0, ix1, ix2, ix3, ix4, sizeMax, Nat.reduceLeDiff]
theorem zgS (k : Nat) {n : Nat} {ns : List Int} (hns : ns.length <= 1000) {p1 p2 p3 p4 p6 p8 : Option PV} {d W : Int} (hW : 4 <= W) (hW2 : W < 18446744073709551616) : ∀ (r i : Nat) (a acc : Int) (u5 u11 u12 : Option PV) (st : Store), 0 <= a -> a + r < 1000 -> 0 <= acc -> acc < W ^ i -> Drw ns n st ->
    ∃ acc' st' v5 v11 v12, 0 <= acc' /\ acc' < W ^ (i + r) /\ Onl ns n st st' /\ forB (callT T (k + 3)) (.n 5) worthB (rangeL r a 1) [some (.loc n), p1, p2, p3, p4, u5, p6, some (.int d), p8, some (.int W), some (.int acc), u11, u12] st = .nx [some (.loc n), p1, p2, p3, p4, v5, p6, some (.int d), p8, some (.int W), some (.int acc'), v11, v12] st'
  | 0, i, a, acc, u5, u11, u12, st, _, _, h0, h1, h => ⟨acc, st, u5, u11, u12, h0, h1, h.refl, by rw [rangeL, zcy]⟩
  | r + 1, i, a, acc, u5, u11, u12, st, ha, hr, h0, h1, h => by
    obtain ⟨e, s1, v11, v12, e0, e1, o1, hs⟩ := zks k hns (p1 := p1) (p2 := p2) (p3 := p3) (p4 := p4) (p6 := p6) (p8 := p8) (u11 := u11) (u12 := u12) (d := d) (acc := acc) h ha (by omega) hW hW2
    have hb : acc * W + e < W ^ (i + 1) := by
      have := Int.mul_le_mul_of_nonneg_right (show acc <= W ^ i - 1 by omega) (show 0 <= W by omega)
      rw [Int.sub_mul, Int.one_mul] at this
      rw [Int.pow_succ]
      omega
    have hb0 : 0 <= acc * W := Int.mul_nonneg h0 (by omega)
    obtain ⟨acc', s2, w5, w11, w12, f0, f1, o2, hf⟩ := zgS k hns (p1 := p1) (p2 := p2) (p3 := p3) (p4 := p4) (p6 := p6) (p8 := p8) (d := d) hW hW2 r (i + 1) (a + 1) (acc * W + e) (some (.int a)) v11 v12 s1 (by omega) (by omega) (by omega) hb (o1.drw h)
    refine ⟨acc', s2, w5, w11, w12, f0, by rw [show i + (r + 1) = i + 1 + r by omega]; exact f1, o1.trans o2, ?_⟩
    rw [rangeL, zcp (ρ1 := [some (.loc n), p1, p2, p3, p4, some (.int a), p6, some (.int d), p8, some (.int W), some (.int acc), u11, u12]) rfl, hs]
    exact hf
theorem ziV (k : Nat) {n : Nat} {ns : List Int} (hns : ns.length <= 1000) {w z : Nat} {kd m : Int} {u5 u6 u7 u8 u9 u10 u11 u12 : Option PV} {st : Store} (h : Drw ns n st) (hk : kd = 8 \/ kd = 9) (hw : 4 <= w) (hw2 : w <= 16) (hz : 1 <= z) (hz2 : z <= 4) (hm : m = 2 ^ (w * z)) :
    ∃ x st', 0 <= x /\ x < m /\ Onl ns n st st' /\ exs (callT T (k + 3)) [some (.loc n), some (.int w), some (.int z), some (.int kd), some (.int m), u5, u6, u7, u8, u9, u10, u11, u12] st worthR = .rt (.int x) st' := by
  have hwz2 : w * z <= 64 := Nat.mul_le_mul hw2 hz2
  have hm1 : 0 < m := hm ▸ zfI _
  have hm2 : m <= 18446744073709551616 := by
    have h64 : (2 : Nat) ^ (w * z) <= 2 ^ 64 := Nat.pow_le_pow_right (by omega) hwz2
    rw [hm, <- pw]
    omega
  obtain ⟨d, s1, d1, d2, o1, e1⟩ := takeD k hns (m := m) (by omega) (by omega) h
  have hW4 : (4 : Int) <= 2 ^ w := by
    have h : (2 : Nat) ^ 2 <= 2 ^ w := Nat.pow_le_pow_right (by omega) (by omega)
    have h2 := pw w
    omega
  have hWl : (2 : Int) ^ w < 18446744073709551616 := by
    have h : (2 : Nat) ^ w <= 2 ^ 16 := Nat.pow_le_pow_right (by omega) hw2
    have h2 := pw w
    omega
  have r1 : rng1 (.int (w : Int)) = some (rangeL w 0 1) := zfA w (by omega)
  have r2 : rng1 (.int (z : Int)) = some (rangeL z 0 1) := zfA z (by omega)
  have k1 : ¬ kd < 6 := by omega
  have k2 : (kd == 6) = false := by simp; omega
  have k3 : (kd == 7) = false := by simp; omega
  have k4 : ¬ 9 < kd := by omega
  obtain ⟨u, hd, _⟩ := dbl (call := callT T (k + 3)) (i := 9) (j := 5) (by omega) w 0 [some (.loc n), some (.int w), some (.int z), some (.int kd), some (.int m), u5, some (.tup [.int 0, .int 1, .int (m - 1), .int (m / 2), .int (m / 2 - 1), .int (m - 2)]), some (.int d), u8, some (.int 1), u10, u11, u12] 1 s1 rfl
  simp only [List.set_cons_zero, List.set_cons_succ, Int.mul_one] at hd
  obtain ⟨acc', s2, w5, w11, w12, f0, f1, o2, hf⟩ := zgS k hns (p1 := some (.int w)) (p2 := some (.int z)) (p3 := some (.int kd)) (p4 := some (.int m)) (p6 := some (.tup [.int 0, .int 1, .int (m - 1), .int (m / 2), .int (m / 2 - 1), .int (m - 2)])) (p8 := u8) (d := d) (W := 2 ^ w) hW4 hWl z 0 0 0 u u11 u12 s1 (by omega) (by omega) (by omega) (by simp) (o1.drw h)
  rw [Nat.zero_add, <- Int.pow_mul, <- hm] at f1
  refine ⟨acc', s2, f0, f1, o1.trans o2, ?_⟩
  have hR : worthR = .cons (.asg (.n 6) (.tup (.cons (.cst (.int 0)) (.cons (.cst (.int 1)) (.cons (.bin .sub (.var 4) (.cst (.int 1))) (.cons (.bin .fdiv (.var 4) (.cst (.int 2))) (.cons (.bin .sub (.bin .fdiv (.var 4) (.cst (.int 2))) (.cst (.int 1))) (.cons (.bin .sub (.var 4) (.cst (.int 2))) .nil)))))))) (match worthR with
    | .cons _ (.cons a (.cons b (.cons c (.cons d (.cons e (.cons f (.cons g (.cons h (.cons (.for t i _) r))))))))) => .cons a (.cons b (.cons c (.cons d (.cons e (.cons f (.cons g (.cons h (.cons (.for t i worthB) r))))))))
    | _ => .nil) := rfl
  rw [hR]
  simp_all! [worthR, f_qworth, x_ite, x_ret, zgw, evi, r1, r2, toL, ev.eq_1, ev.eq_3, ev.eq_8, ev.eq_11, ev.eq_16, toR_some, th_rt, b_sub, b_div2, c_lt, c_eq, c_gt, on_t, t_bl, k1, k2, k3, k4, decide_false, cond_false, e1, hd, hf, sizeMax, Nat.reduceLeDiff]
end WK
namespace WK
open IC PySem
theorem worth (k : Nat) {n : Nat} {ns : List Int} (hns : ns.length <= 1000) (w z : Nat) (hw : 4 <= w) (hw2 : w <= 16) (hz : 1 <= z) (hz2 : z <= 4) {st : Store} (h : Drw ns n st) :
    ∃ x st', 0 <= x /\ x < 2 ^ (w * z) /\ Onl ns n st st' /\ callT T (k + 4) zfz [.loc n, .int w, .int z] st = .ok (.int x) st' := by
  obtain ⟨kd, s1, d1, d2, o1, e1⟩ := takeD k hns (m := 12) (by omega) (by omega) h
  have h1 := o1.drw h
  have hwz2 : w * z <= 64 := Nat.mul_le_mul hw2 hz2
  have hwz : 4 <= w * z := Nat.mul_le_mul hw hz
  have hm : (16 : Int) <= 2 ^ (w * z) := by
    have h : (2 : Nat) ^ 4 <= 2 ^ (w * z) := Nat.pow_le_pow_right (by omega) hwz
    have h2 := pw (w * z)
    omega
  have hm2 : (2 : Int) ^ (w * z) <= 18446744073709551616 := by
    have h : (2 : Nat) ^ (w * z) <= 2 ^ 64 := Nat.pow_le_pow_right (by omega) hwz2
    have h2 := pw (w * z)
    omega
  have hwa : (w : Int).natAbs < 18446744073709551616 := by omega
  have hwm : (w : Int) * (z : Int) = ((w * z : Nat) : Int) := by simp
  have r1 : rng1 (.int ((w * z : Nat) : Int)) = some (rangeL (w * z) 0 1) := zfA _ (by omega)
  obtain ⟨u, hd, _⟩ := dbl (call := callT T (k + 3)) (i := 4) (j := 5) (by omega) (w * z) 0 [some (.loc n), some (.int w), some (.int z), some (.int kd), some (.int 1), none, none, none, none, none, none, none, none] 1 s1 rfl
  simp only [List.set_cons_zero, List.set_cons_succ, Int.mul_one] at hd
  have key : ∃ x st', 0 <= x /\ x < 2 ^ (w * z) /\ Onl ns n s1 st' /\ exs (callT T (k + 3)) [some (.loc n), some (.int w), some (.int z), some (.int kd), some (.int (2 ^ (w * z))), u, none, none, none, none, none, none, none] s1 worthR = .rt (.int x) st' := by
    rcases (by omega : kd < 6 \/ (kd = 6 \/ kd = 7) \/ (kd = 8 \/ kd = 9) \/ 9 < kd) with q | q | q | q
    · obtain ⟨x, a, b, e⟩ := zkI (c := callT T (k + 3)) (n := n) (w := w) (z := z) (st := s1) (u5 := u) (u6 := none) (u7 := none) (u8 := none) (u9 := none) (u10 := none) (u11 := none) (u12 := none) d1 q hm
      exact ⟨x, s1, a, b, h1.refl, e⟩
    · exact zj5 k hns h1 q (by omega) (by omega) (by omega) (by omega) (by rw [hwm, Int.toNat_natCast])
    · exact ziV k hns h1 q hw hw2 hz hz2 rfl
    · exact zlM k hns h1 q hm hm2
  obtain ⟨x, s2, a, b, o2, e2⟩ := key
  refine ⟨x, s2, a, b, o1.trans o2, ?_⟩
  have hT : T zfz = some ⟨3, 13, false, f_qworth.body⟩ := rfl
  have hb : f_qworth.body = .cons (.asg (.n 3) (.call 22 (.cons (.var 0) (.cons (.cst (.int 12)) .nil)))) (.cons (.asg (.n 4) (.cst (.int 1))) (.cons (.for (.n 5) (.range1 (.bin .mul (.var 1) (.var 2))) (.cons (.asg (.n 4) (.bin .mul (.cst (.int 2)) (.var 4))) .nil)) worthR)) := rfl
  rw [callT, hT, hb]
  simp only [List.length_cons, List.length_nil, Nat.zero_add, Nat.reduceAdd, if_true, Bool.false_eq_true, if_false, List.map_cons, List.map_nil, Nat.reduceSub, List.replicate, List.cons_append, List.nil_append]
  rw [xs_cons, x_asg]
  simp only [ev.eq_18, ev.eq_1, ev.eq_2, evs, List.getElem?_cons_zero, List.getElem?_cons_succ, bd_ok, fl_ok, e1, bT_n, nxO_some, th_nx, List.set_cons_zero, List.set_cons_succ]
  rw [xs_cons, x_asg]
  simp only [ev.eq_1, bd_ok, fl_ok, bT_n, nxO_some, th_nx, List.set_cons_zero, List.set_cons_succ]
  rw [xs_cons, zgw]
  simp only [evi, ev.eq_2, ev.eq_3, List.getElem?_cons_zero, List.getElem?_cons_succ, bd_ok, fl_ok, zpi hwa, hwm, r1, toL, toR_some, hd, th_nx, e2]
end WK
namespace WK
open IC PySem
theorem zdt (f : Int -> Rw) (m : Nat) : (upRows f m).length = m := by
  induction m with
  | zero => rfl
  | succ m ih => simp [upRows, ih]
def zfC : PV := .tup [.str (Str.ofString "sum")]
def zjZ : PV := valR (callT T 8 zby [zfC] [])
theorem zmV : callT T 8 zby [zfC] [] = .ok zjZ [] := zfJ (by decide +kernel)
theorem zoz : callT T 8 za6 [zjZ] [] = .ok (.bl true) [] := zb1 (by decide +kernel)
theorem znQ : noLoc zfC = true /\ noLoc zjZ = true := by decide +kernel
theorem zmx : ((List.range 13).all fun i => (List.range 4).all fun j => isOk (callT T 8 zaB [zjZ, .int ((i + 4 : Nat) : Int), .int ((j + 1 : Nat) : Int), .int 4000] []) (.lst ((sumRows (j + 1)).map rowV))) = true := by decide +kernel
theorem znq : ((List.range 4).all fun j => isOk (callT T 8 zac [.lst ((sumRows (j + 1)).map rowV)] []) (.bl true)) = true := by decide +kernel
theorem zof (w n : Nat) (hw : 4 <= w) (hw2 : w <= 16) (hn : 1 <= n) (hn2 : n <= 4) : callT T 8 zaB [zjZ, .int w, .int n, .int 4000] [] = .ok (.lst ((sumRows n).map rowV)) [] := by
  have h := List.all_eq_true.1 zmx (w - 4) (by simp; omega)
  have h := List.all_eq_true.1 h (n - 1) (by simp; omega)
  have h := zb1 h
  rwa [show w - 4 + 4 = w by omega, show n - 1 + 1 = n by omega] at h
theorem zow (n : Nat) (hn : 1 <= n) (hn2 : n <= 4) : callT T 8 zac [.lst ((sumRows n).map rowV)] [] = .ok (.bl true) [] := by
  have h := List.all_eq_true.1 znq (n - 1) (by simp; omega)
  have h := zb1 h
  rwa [show n - 1 + 1 = n by omega] at h
theorem zos (n : Nat) (hn2 : n <= 4) : ((sumRows n)).length < 5000 := by
  simp [sumRows, lessRows, turnRows, bareRows, compRows, pairRows, wordRows, loneRows, endRows, zdt]; try omega
def zeD : PV := .tup [.str (Str.ofString "difference")]
def zgW : PV := valR (callT T 8 zby [zeD] [])
theorem zmn : callT T 8 zby [zeD] [] = .ok zgW [] := zfJ (by decide +kernel)
theorem znF : callT T 8 za6 [zgW] [] = .ok (.bl true) [] := zb1 (by decide +kernel)
theorem zlR : noLoc zeD = true /\ noLoc zgW = true := by decide +kernel
theorem zlj : ((List.range 13).all fun i => (List.range 4).all fun j => isOk (callT T 8 zaB [zgW, .int ((i + 4 : Nat) : Int), .int ((j + 1 : Nat) : Int), .int 4000] []) (.lst ((lessRows (j + 1)).map rowV))) = true := by decide +kernel
theorem zlU : ((List.range 4).all fun j => isOk (callT T 8 zac [.lst ((lessRows (j + 1)).map rowV)] []) (.bl true)) = true := by decide +kernel
theorem znB (w n : Nat) (hw : 4 <= w) (hw2 : w <= 16) (hn : 1 <= n) (hn2 : n <= 4) : callT T 8 zaB [zgW, .int w, .int n, .int 4000] [] = .ok (.lst ((lessRows n).map rowV)) [] := by
  have h := List.all_eq_true.1 zlj (w - 4) (by simp; omega)
  have h := List.all_eq_true.1 h (n - 1) (by simp; omega)
  have h := zb1 h
  rwa [show w - 4 + 4 = w by omega, show n - 1 + 1 = n by omega] at h
theorem zmO (n : Nat) (hn : 1 <= n) (hn2 : n <= 4) : callT T 8 zac [.lst ((lessRows n).map rowV)] [] = .ok (.bl true) [] := by
  have h := List.all_eq_true.1 zlU (n - 1) (by simp; omega)
  have h := zb1 h
  rwa [show n - 1 + 1 = n by omega] at h
theorem zmZ (n : Nat) (hn2 : n <= 4) : ((lessRows n)).length < 5000 := by
  simp [sumRows, lessRows, turnRows, bareRows, compRows, pairRows, wordRows, loneRows, endRows, zdt]; try omega
def zeo : PV := .tup [.str (Str.ofString "turned")]
def zg1 : PV := valR (callT T 8 zby [zeo] [])
theorem zmb : callT T 8 zby [zeo] [] = .ok zg1 [] := zfJ (by decide +kernel)
theorem zmC : callT T 8 za6 [zg1] [] = .ok (.bl true) [] := zb1 (by decide +kernel)
theorem zl2 : noLoc zeo = true /\ noLoc zg1 = true := by decide +kernel
theorem zk6 : ((List.range 13).all fun i => (List.range 4).all fun j => isOk (callT T 8 zaB [zg1, .int ((i + 4 : Nat) : Int), .int ((j + 1 : Nat) : Int), .int 4000] []) (.lst ((turnRows (j + 1)).map rowV))) = true := by decide +kernel
theorem zmp : ((List.range 4).all fun j => isOk (callT T 8 zac [.lst ((turnRows (j + 1)).map rowV)] []) (.bl true)) = true := by decide +kernel
theorem zm6 (w n : Nat) (hw : 4 <= w) (hw2 : w <= 16) (hn : 1 <= n) (hn2 : n <= 4) : callT T 8 zaB [zg1, .int w, .int n, .int 4000] [] = .ok (.lst ((turnRows n).map rowV)) [] := by
  have h := List.all_eq_true.1 zk6 (w - 4) (by simp; omega)
  have h := List.all_eq_true.1 h (n - 1) (by simp; omega)
  have h := zb1 h
  rwa [show w - 4 + 4 = w by omega, show n - 1 + 1 = n by omega] at h
theorem znj (n : Nat) (hn : 1 <= n) (hn2 : n <= 4) : callT T 8 zac [.lst ((turnRows n).map rowV)] [] = .ok (.bl true) [] := by
  have h := List.all_eq_true.1 zmp (n - 1) (by simp; omega)
  have h := zb1 h
  rwa [show n - 1 + 1 = n by omega] at h
theorem znx (n : Nat) (hn2 : n <= 4) : ((turnRows n)).length < 5000 := by
  simp [sumRows, lessRows, turnRows, bareRows, compRows, pairRows, wordRows, loneRows, endRows, zdt]; try omega
def zet : PV := .tup [.str (Str.ofString "bare")]
def zgR : PV := valR (callT T 8 zby [zet] [])
theorem zk7 : callT T 8 zby [zet] [] = .ok zgR [] := zfJ (by decide +kernel)
theorem zmP : callT T 8 za6 [zgR] [] = .ok (.bl true) [] := zb1 (by decide +kernel)
theorem zkS : noLoc zet = true /\ noLoc zgR = true := by decide +kernel
theorem zlA : ((List.range 13).all fun i => (List.range 4).all fun j => isOk (callT T 8 zaB [zgR, .int ((i + 4 : Nat) : Int), .int ((j + 1 : Nat) : Int), .int 4000] []) (.lst ((bareRows (j + 1)).map rowV))) = true := by decide +kernel
theorem zmr : ((List.range 4).all fun j => isOk (callT T 8 zac [.lst ((bareRows (j + 1)).map rowV)] []) (.bl true)) = true := by decide +kernel
theorem znn (w n : Nat) (hw : 4 <= w) (hw2 : w <= 16) (hn : 1 <= n) (hn2 : n <= 4) : callT T 8 zaB [zgR, .int w, .int n, .int 4000] [] = .ok (.lst ((bareRows n).map rowV)) [] := by
  have h := List.all_eq_true.1 zlA (w - 4) (by simp; omega)
  have h := List.all_eq_true.1 h (n - 1) (by simp; omega)
  have h := zb1 h
  rwa [show w - 4 + 4 = w by omega, show n - 1 + 1 = n by omega] at h
theorem zm2 (n : Nat) (hn : 1 <= n) (hn2 : n <= 4) : callT T 8 zac [.lst ((bareRows n).map rowV)] [] = .ok (.bl true) [] := by
  have h := List.all_eq_true.1 zmr (n - 1) (by simp; omega)
  have h := zb1 h
  rwa [show n - 1 + 1 = n by omega] at h
theorem znE (n : Nat) (hn2 : n <= 4) : ((bareRows n)).length < 5000 := by
  simp [sumRows, lessRows, turnRows, bareRows, compRows, pairRows, wordRows, loneRows, endRows, zdt]; try omega
end WK
namespace WK
open IC PySem
theorem told (j : Nat) {d v : PV} {rs : List Rw} (w n : Nat) (hw : w <= 16) (hn : n < 1000) (hl : rs.length < 5000) (x y : Int) (hd : noLoc d = true) (hv : noLoc v = true)
    (h0 : callT T 8 zby [d] [] = .ok v [])
    (h1 : callT T 8 za6 [v] [] = .ok (.bl true) []) (h2 : callT T 8 zaB [v, .int w, .int n, .int 4000] [] = .ok (.lst (rs.map rowV)) []) (h3 : callT T 8 zac [.lst (rs.map rowV)] [] = .ok (.bl true) [])
    {z m : Int} (hr : valM (2 ^ w) (runM (2 ^ w) rs (begM (2 ^ w) n x y) 0).1 99 n = z) (hm : (runM (2 ^ w) rs (begM (2 ^ w) n x y) 0).1 109 0 = m) (st : Store) :
    callT T (8 + j + 2) za2 [d, .int w, .int n, .int x, .int y] st = .ok (.tup [.int z, .int m]) st := by
  have g0 := lift8 h0 (j + 1)
  rw [show 8 + (j + 1) = 8 + j + 1 by omega] at g0
  obtain ⟨o, r1, L, r2⟩ := run j w n hw hn hl x y hv h1 h2 h3
  have hrd := read (7 + j) r2 (Str.ofString "c") 99 chC w n hw hn
  rw [show 7 + j + 2 = 8 + j + 1 by omega, hr] at hrd
  have hmk := marks (8 + j) r2
  rw [hm] at hmk
  have ci : cmpV .is (.loc 0) .non = some (.bl false) := rfl
  have hT : T za2 = some zce := rfl
  have hnl : noLocs [d, .int w, .int n, .int x, .int y] = true := by simp [noLocs, noLoc, hd]
  rw [callT, hT]
  simp_all! [zce, hnl, Bool.false_eq_true, if_false, List.map_cons, List.map_nil, Nat.reduceSub, List.replicate, List.cons_append, List.nil_append, x_ite, x_ret, ev.eq_1, ev.eq_8, ev.eq_11, ev.eq_16, g0, r1, ci, toR_some, th_rt, t_bl, on_t, cond_false, hrd, hmk, ix0, sizeMax, Nat.reduceLeDiff, noLoc, noLocs, Bool.and_self, hd, Bool.and_true]
section
variable (w n : Nat) (hw : 4 <= w) (hw2 : w <= 16) (hn : 1 <= n) (hn2 : n <= 4) {x y : Int} (x0 : 0 <= x) (x1 : x < 2 ^ (w * n)) (st : Store)
include hw hw2 hn hn2 x0 x1
theorem zo6 (y0 : 0 <= y) (y1 : y < 2 ^ (w * n)) : callT T 11 za2 [.tup [.str (Str.ofString "sum")], .int w, .int n, .int x, .int y] st = .ok (.tup [.int ((x + y) % 2 ^ (w * n)), .int (bi (decide (2 ^ (w * n) <= x + y)))]) st := by
  have hp : (2 : Int) ^ (w * n) = (2 ^ w : Int) ^ n := Int.pow_mul
  have hn1 : n - 1 + 1 = n := by omega
  have mm := zmM (w := w) (by omega) (n := n - 1) x0 (by rw [hn1, <- hp]; exact x1) y0 (by rw [hn1, <- hp]; exact y1)
  rw [hn1, <- hp] at mm
  exact told 1 w n hw2 (by omega) (rs := sumRows n) (zos n hn2) x y (d := zfC) (v := zjZ) znQ.1 znQ.2 zmV zoz (zof w n hw hw2 hn hn2) (zow n hn hn2) mm.1 mm.2.1 st
theorem zn7 (y0 : 0 <= y) (y1 : y < 2 ^ (w * n)) : callT T 11 za2 [.tup [.str (Str.ofString "difference")], .int w, .int n, .int x, .int y] st = .ok (.tup [.int ((x - y) % 2 ^ (w * n)), .int (bi (decide (x < y)))]) st := by
  have hp : (2 : Int) ^ (w * n) = (2 ^ w : Int) ^ n := Int.pow_mul
  have hn1 : n - 1 + 1 = n := by omega
  have mm := zk5 (w := w) (by omega) (n := n - 1) x0 (by rw [hn1, <- hp]; exact x1) y0 (by rw [hn1, <- hp]; exact y1)
  rw [hn1, <- hp] at mm
  exact told 1 w n hw2 (by omega) (rs := lessRows n) (zmZ n hn2) x y (d := zeD) (v := zgW) zlR.1 zlR.2 zmn znF (znB w n hw hw2 hn hn2) (zmO n hn hn2) mm.1 mm.2.1 st
theorem zn5 : callT T 11 za2 [.tup [.str (Str.ofString "turned")], .int w, .int n, .int x, .int 0] st = .ok (.tup [.int ((0 - x) % 2 ^ (w * n)), .int (bi (!(x == 0)))]) st := by
  have hp : (2 : Int) ^ (w * n) = (2 ^ w : Int) ^ n := Int.pow_mul
  have hn1 : n - 1 + 1 = n := by omega
  have mm := zlL (w := w) (by omega) (n := n - 1) (y := 0) x0 (by rw [hn1, <- hp]; exact x1)
  rw [hn1, <- hp] at mm
  exact told 1 w n hw2 (by omega) (rs := turnRows n) (znx n hn2) x 0 (d := zeo) (v := zg1) zl2.1 zl2.2 zmb zmC (zm6 w n hw hw2 hn hn2) (znj n hn hn2) mm.1 mm.2.1 st
theorem znU : callT T 11 za2 [.tup [.str (Str.ofString "bare")], .int w, .int n, .int x, .int 0] st = .ok (.tup [.int (2 ^ (w * n) - 1 - x), .int 0]) st := by
  have hp : (2 : Int) ^ (w * n) = (2 ^ w : Int) ^ n := Int.pow_mul
  have hn1 : n - 1 + 1 = n := by omega
  have mm := zmm (w := w) (by omega) (n := n - 1) (y := 0) x0 (by rw [hn1, <- hp]; exact x1)
  rw [hn1, <- hp] at mm
  exact told 1 w n hw2 (by omega) (rs := bareRows n) (znE n hn2) x 0 (d := zet) (v := zgR) zkS.1 zkS.2 zk7 zmP (znn w n hw hw2 hn hn2) (zm2 n hn hn2) mm.1 mm.2.1 st
end
theorem ne2 (a b : Int) : cmpV .ne (.tup [.int a, .int b]) (.tup [.int a, .int b]) = some (.bl false) := by simp [cmpV, shd, shds, peq, peqs]
theorem zkl (l : List Int) : noLocs [PV.scr (l.map .int)] = true := by simp [noLocs, noLoc, zd6]
theorem znl (ns : List Int) (hn : ns.length <= 63) : callT T 12 zkO [.scr (ns.map .int)] [] = .ok (.bl true) [] := by
  obtain ⟨o, e1, ho⟩ := fresh 10 ns hn []
  have h0 : Drw ns 0 ([] ++ [o]) := ⟨0, 0, false, by omega, by rw [ho]; rfl⟩
  have hns : ns.length <= 1000 := by omega
  obtain ⟨wi, zi, s1, a1, a2, a3, a4, o1, e2⟩ := sizes 7 hns (m := 4) (by omega) (by omega) h0
  obtain ⟨w, rfl⟩ := zmj (show 0 <= wi by omega)
  obtain ⟨z, rfl⟩ := zmj (show 0 <= zi by omega)
  have h1 := o1.drw h0
  obtain ⟨x, s2, x0, x1, o2, e3⟩ := worth 7 hns w z (by omega) (by omega) (by omega) (by omega) h1
  have h2 := o2.drw h1
  obtain ⟨y, s3, y0, y1, o3, e4⟩ := worth 7 hns w z (by omega) (by omega) (by omega) (by omega) h2
  have e1 : callT T 11 zha [.scr (ns.map .int)] [] = .ok (.loc 0) [o] := e1
  have e2 : callT T 11 zhe [.loc 0, .int 4] [o] = .ok (.tup [.int w, .int z]) s1 := e2
  have e3 : callT T 11 zfz [.loc 0, .int w, .int z] s1 = .ok (.int x) s2 := e3
  have e4 : callT T 11 zfz [.loc 0, .int w, .int z] s2 = .ok (.int y) s3 := e4
  have w1 : 4 <= w := by omega
  have w2 : w <= 16 := by omega
  have z1 : 1 <= z := by omega
  have z2 : z <= 4 := by omega
  have hT0 : (0 : Int) < 2 ^ (w * z) := zfI _
  have hT1 : (1 : Int) < 2 ^ (w * z) := by
    have h : (2 : Nat) ^ 1 <= 2 ^ (w * z) := Nat.pow_le_pow_right (by omega) (Nat.le_trans (by omega) (Nat.mul_le_mul w1 z1))
    have h2 := pw (w * z)
    omega
  have m0 : ∀ a : Int, 0 <= a % 2 ^ (w * z) := fun a => Int.emod_nonneg _ (by omega)
  have m1 : ∀ a : Int, a % 2 ^ (w * z) < 2 ^ (w * z) := fun a => Int.emod_lt_of_pos _ hT0
  have u1 := zo6 w z w1 w2 z1 z2 x0 x1 s3 y0 y1
  have u2 := zn7 w z w1 w2 z1 z2 (m0 (x + y)) (m1 (x + y)) s3 y0 y1
  have u3 := zn7 w z w1 w2 z1 z2 x0 x1 s3 y0 y1
  have u4 := zo6 w z w1 w2 z1 z2 (m0 (x - y)) (m1 (x - y)) s3 y0 y1
  have u5 := zn5 w z w1 w2 z1 z2 x0 x1 s3
  have u6 := znU w z w1 w2 z1 z2 x0 x1 s3
  have u7 := zn5 w z w1 w2 z1 z2 (m0 (0 - x)) (m1 (0 - x)) s3
  have u8 := znU w z w1 w2 z1 z2 (x := 2 ^ (w * z) - 1 - x) (by omega) (by omega) s3
  have u9 := zo6 w z w1 w2 z1 z2 (x := 2 ^ (w * z) - 1 - x) (y := 1) (by omega) (by omega) s3 (by omega) hT1
  have f1 : ((x + y) % 2 ^ (w * z) - y) % 2 ^ (w * z) = x := by
    rw [Int.sub_emod, Int.emod_emod, <- Int.sub_emod, show x + y - y = x by omega]; exact Int.emod_eq_of_lt x0 x1
  have f2 : bi (decide ((x + y) % 2 ^ (w * z) < y)) = bi (decide (2 ^ (w * z) <= x + y)) := by
    by_cases h : 2 ^ (w * z) <= x + y
    · have : (x + y) % 2 ^ (w * z) = x + y - 2 ^ (w * z) := by
        rw [<- Int.sub_emod_right]; exact Int.emod_eq_of_lt (by omega) (by omega)
      rw [this, decide_eq_true h, decide_eq_true (by omega)]
    · have : (x + y) % 2 ^ (w * z) = x + y := Int.emod_eq_of_lt (by omega) (by omega)
      rw [this, decide_eq_false h, decide_eq_false (by omega)]
  have f3 : ((x - y) % 2 ^ (w * z) + y) % 2 ^ (w * z) = x := by
    rw [Int.add_emod, Int.emod_emod, <- Int.add_emod, show x - y + y = x by omega]; exact Int.emod_eq_of_lt x0 x1
  have f4 : bi (decide (2 ^ (w * z) <= (x - y) % 2 ^ (w * z) + y)) = bi (decide (x < y)) := by
    by_cases h : x < y
    · have : (x - y) % 2 ^ (w * z) = x - y + 2 ^ (w * z) := by
        rw [<- Int.add_emod_right]; exact Int.emod_eq_of_lt (by omega) (by omega)
      rw [this, decide_eq_true h, decide_eq_true (by omega)]
    · have : (x - y) % 2 ^ (w * z) = x - y := Int.emod_eq_of_lt (by omega) (by omega)
      rw [this, decide_eq_false h, decide_eq_false (by omega)]
  have g1 : (0 - x) % 2 ^ (w * z) = if x = 0 then 0 else 2 ^ (w * z) - x := by
    split
    · rename_i h; subst h; simp
    · rw [<- Int.add_emod_right, show 0 - x + 2 ^ (w * z) = 2 ^ (w * z) - x by omega]; exact Int.emod_eq_of_lt (by omega) (by omega)
  have f5 : (0 - (0 - x) % 2 ^ (w * z)) % 2 ^ (w * z) = x := by
    rw [Int.sub_emod, Int.emod_emod, <- Int.sub_emod, show 0 - (0 - x) = x by omega]; exact Int.emod_eq_of_lt x0 x1
  have f6 : bi (!((0 - x) % 2 ^ (w * z) == 0)) = bi (!(x == 0)) := by
    rw [g1]
    by_cases h : x = 0
    · subst h; simp
    · rw [if_neg h, beq_eq_false_iff_ne.2 h, beq_eq_false_iff_ne.2 (by omega)]
  have f7 : (2 : Int) ^ (w * z) - 1 - (2 ^ (w * z) - 1 - x) = x := by omega
  have f8 : ((2 : Int) ^ (w * z) - 1 - x + 1) % 2 ^ (w * z) = (0 - x) % 2 ^ (w * z) := by
    rw [show (2 : Int) ^ (w * z) - 1 - x + 1 = (0 - x) + 2 ^ (w * z) by omega, Int.add_emod_right]
  rw [f1, f2] at u2
  rw [f3, f4] at u4
  rw [f5, f6] at u7
  rw [f7] at u8
  rw [f8] at u9
  have l1 : ¬ (x + y) % 2 ^ (w * z) < 0 := by have := m0 (x + y); omega
  have l2 : ¬ (x - y) % 2 ^ (w * z) < 0 := by have := m0 (x - y); omega
  have l3 : ¬ (0 - x) % 2 ^ (w * z) < 0 := by have := m0 (0 - x); omega
  have l4 : ¬ (2 : Int) ^ (w * z) - 1 - x < 0 := by omega
  have hz : ((0 : Int) == 0) = true := rfl
  have hbt : ∀ (i j : Nat) (a b : PV) (ρ : IC.Env), bindT (.t [i, j]) (.tup [a, b]) ρ = some ((ρ.set i (some a)).set j (some b)) := fun i j a b ρ => rfl
  have hT : T zkO = some zna := rfl
  rw [callT, hT]
  simp_all! [zna, zkl, Bool.false_eq_true, if_false, List.map_cons, List.map_nil, Nat.reduceSub, List.replicate, List.cons_append, List.nil_append, x_ite, x_ret, ev.eq_1, ev.eq_7, ev.eq_8, ev.eq_11, ev.eq_16, toR_some, e1, e2, e3, e4, hbt, th_rt, u1, u2, u3, u4, u5, u6, u7, u8, u9, c_lt, c_ne, c_eq, ne2, l1, l2, l3, l4, decide_false, onBl, cond_false, t_bl, on_t, hz, Bool.not_true, ix0, sizeMax, Nat.reduceLeDiff, BEq.rfl, noLoc]
end WK
namespace WK
open PySem L2 IC
section
variable {P : Program} {w : World} {K : PySem.W.Frag} {mg : Str -> Option Value} {base : Heap} {cl : Nat -> Addr} {fa : Nat -> Addr} {fdd : Nat -> FuncData}
theorem zB (Z : Facts K mg cl fa fdd) : ∀ k, Fns P w K mg base cl fa fdd k
  | 0 => fun i ps _ => zov rfl
  | k + 1 => fun i ps h => match i, h with
    | 0, h => by cases h; exact zop Z (zB Z k)
    | 1, h => by cases h; exact zie Z (zB Z k)
    | 2, h => by cases h; exact zoF Z (zB Z k)
    | 3, h => by cases h; exact zmw Z (zB Z k)
    | 4, h => by cases h; exact zlg Z (zB Z k)
    | 5, h => by cases h; exact zok Z (zB Z k)
    | 6, h => by cases h; exact zia Z (zB Z k)
    | 7, h => by cases h; exact zfq Z (zB Z k)
    | 8, h => by cases h; exact zgM Z (zB Z k)
    | 9, h => by cases h; exact zfQ Z (zB Z k)
    | 10, h => by cases h; exact zgJ Z (zB Z k)
    | 11, h => by cases h; exact zds Z (zB Z k)
    | 12, h => by cases h; exact zeW Z (zB Z k)
    | 13, h => by cases h; exact zgt Z (zB Z k)
    | 14, h => by cases h; exact zkF Z (zB Z k)
    | 15, h => by cases h; exact zh7 Z (zB Z k)
    | 16, h => by cases h; exact zkD Z (zB Z k)
    | 17, h => by cases h; exact zkM Z (zB Z k)
    | 18, h => by cases h; exact zfw Z (zB Z k)
    | 19, h => by cases h; exact zlX Z (zB Z k)
    | 20, h => by cases h; exact zlz Z (zB Z k)
    | 21, h => by cases h; exact zm0 Z (zB Z k)
    | 22, h => by cases h; exact zne Z (zB Z k)
    | 23, h => by cases h; exact zl8 Z (zB Z k)
    | 24, h => by cases h; exact zlF Z (zB Z k)
    | 25, h => by cases h; exact zkz Z (zB Z k)
    | 26, h => by cases h; exact zls Z (zB Z k)
    | 27, h => by cases h; exact zll Z (zB Z k)
    | 28, h => by cases h; exact zkj Z (zB Z k)
    | 29, h => by cases h; exact zkr Z (zB Z k)
    | 30, h => by cases h; exact zgN Z (zB Z k)
    | 31, h => by cases h; exact zfX Z (zB Z k)
    | 32, h => by cases h; exact zmu Z (zB Z k)
    | 33, h => by cases h; exact zfR Z (zB Z k)
    | 34, h => by cases h; exact zmH Z (zB Z k)
    | 35, h => by cases h; exact zgK Z (zB Z k)
    | 36, h => by cases h; exact zpr Z (zB Z k)
    | 37, h => by cases h; exact zhh Z (zB Z k)
    | 38, h => by cases h; exact zhH Z (zB Z k)
    | 39, h => by cases h; exact znt Z (zB Z k)
    | 40, h => by cases h; exact zli Z (zB Z k)
    | 41, h => by cases h; exact zh3 Z (zB Z k)
    | 42, h => by cases h; exact zgL Z (zB Z k)
    | 43, h => by cases h; exact zlB Z (zB Z k)
    | 44, h => by cases h; exact zog Z (zB Z k)
    | 45, h => by cases h; exact zmz Z (zB Z k)
    | 46, h => by cases h; exact zkW Z (zB Z k)
    | 47, h => by cases h; exact zgO Z (zB Z k)
    | 48, h => by cases h; exact zpk Z (zB Z k)
    | i + 49, h => by cases h
end
set_option maxHeartbeats 0 in
theorem all_mk {l : PySem.W.OpenLaw} {w : World} {K : PySem.W.Frag} {h : Heap} {mg : Str -> Option Value} {fx : Addr} (X : K.In h) (G : h.Ns mainGlobals mg) (hfa : mg "law" = some (.ref fx))
    {f0 : Addr}
    {od0 an0 : Option Addr}
    {sl0 : Array (Option Value)}
    {oc0 kV0 dc0 pm0 cd0 ct0 : Value}
    {dT0 : Addr}
    {dd0 : Option Addr}
    {dn0 : Nat}
    {ds0 : Array (Option Value)}
    {dk0_0 dk0_1 dk0_2 dk0_3 : Tok}
    {f1 : Addr}
    {od1 an1 : Option Addr}
    {sl1 : Array (Option Value)}
    {oc1 kV1 dc1 pm1 cd1 ct1 : Value}
    {f2 : Addr}
    {od2 an2 : Option Addr}
    {sl2 : Array (Option Value)}
    {oc2 kV2 dc2 pm2 cd2 ct2 : Value}
    {f3 : Addr}
    {od3 an3 : Option Addr}
    {sl3 : Array (Option Value)}
    {oc3 kV3 dc3 pm3 cd3 ct3 : Value}
    {f4 : Addr}
    {od4 an4 : Option Addr}
    {sl4 : Array (Option Value)}
    {oc4 kV4 dc4 pm4 cd4 ct4 : Value}
    {dT4 : Addr}
    {dd4 : Option Addr}
    {dn4 : Nat}
    {ds4 : Array (Option Value)}
    {dk4_0 dk4_1 dk4_2 dk4_3 : Tok}
    {f5 : Addr}
    {od5 an5 : Option Addr}
    {sl5 : Array (Option Value)}
    {oc5 kV5 dc5 pm5 cd5 ct5 : Value}
    {dT5 : Addr}
    {dd5 : Option Addr}
    {dn5 : Nat}
    {ds5 : Array (Option Value)}
    {dk5_0 dk5_1 dk5_2 dk5_3 : Tok}
    {f6 : Addr}
    {od6 an6 : Option Addr}
    {sl6 : Array (Option Value)}
    {oc6 kV6 dc6 pm6 cd6 ct6 : Value}
    {f7 : Addr}
    {od7 an7 : Option Addr}
    {sl7 : Array (Option Value)}
    {oc7 kV7 dc7 pm7 cd7 ct7 : Value}
    {f8 : Addr}
    {od8 an8 : Option Addr}
    {sl8 : Array (Option Value)}
    {oc8 kV8 dc8 pm8 cd8 ct8 : Value}
    {f9 : Addr}
    {od9 an9 : Option Addr}
    {sl9 : Array (Option Value)}
    {oc9 kV9 dc9 pm9 cd9 ct9 : Value}
    {f10 : Addr}
    {od10 an10 : Option Addr}
    {sl10 : Array (Option Value)}
    {oc10 kV10 dc10 pm10 cd10 ct10 : Value}
    {f11 : Addr}
    {od11 an11 : Option Addr}
    {sl11 : Array (Option Value)}
    {oc11 kV11 dc11 pm11 cd11 ct11 : Value}
    {f12 : Addr}
    {od12 an12 : Option Addr}
    {sl12 : Array (Option Value)}
    {oc12 kV12 dc12 pm12 cd12 ct12 : Value}
    {f13 : Addr}
    {od13 an13 : Option Addr}
    {sl13 : Array (Option Value)}
    {oc13 kV13 dc13 pm13 cd13 ct13 : Value}
    {f14 : Addr}
    {od14 an14 : Option Addr}
    {sl14 : Array (Option Value)}
    {oc14 kV14 dc14 pm14 cd14 ct14 : Value}
    {f15 : Addr}
    {od15 an15 : Option Addr}
    {sl15 : Array (Option Value)}
    {oc15 kV15 dc15 pm15 cd15 ct15 : Value}
    {f16 : Addr}
    {od16 an16 : Option Addr}
    {sl16 : Array (Option Value)}
    {oc16 kV16 dc16 pm16 cd16 ct16 : Value}
    {f17 : Addr}
    {od17 an17 : Option Addr}
    {sl17 : Array (Option Value)}
    {oc17 kV17 dc17 pm17 cd17 ct17 : Value}
    {f18 : Addr}
    {od18 an18 : Option Addr}
    {sl18 : Array (Option Value)}
    {oc18 kV18 dc18 pm18 cd18 ct18 : Value}
    {f19 : Addr}
    {od19 an19 : Option Addr}
    {sl19 : Array (Option Value)}
    {oc19 kV19 dc19 pm19 cd19 ct19 : Value}
    {f20 : Addr}
    {od20 an20 : Option Addr}
    {sl20 : Array (Option Value)}
    {oc20 kV20 dc20 pm20 cd20 ct20 : Value}
    {f21 : Addr}
    {od21 an21 : Option Addr}
    {sl21 : Array (Option Value)}
    {oc21 kV21 dc21 pm21 cd21 ct21 : Value}
    {f22 : Addr}
    {od22 an22 : Option Addr}
    {sl22 : Array (Option Value)}
    {oc22 kV22 dc22 pm22 cd22 ct22 : Value}
    {f23 : Addr}
    {od23 an23 : Option Addr}
    {sl23 : Array (Option Value)}
    {oc23 kV23 dc23 pm23 cd23 ct23 : Value}
    {f24 : Addr}
    {od24 an24 : Option Addr}
    {sl24 : Array (Option Value)}
    {oc24 kV24 dc24 pm24 cd24 ct24 : Value}
    {f25 : Addr}
    {od25 an25 : Option Addr}
    {sl25 : Array (Option Value)}
    {oc25 kV25 dc25 pm25 cd25 ct25 : Value}
    {f26 : Addr}
    {od26 an26 : Option Addr}
    {sl26 : Array (Option Value)}
    {oc26 kV26 dc26 pm26 cd26 ct26 : Value}
    {f27 : Addr}
    {od27 an27 : Option Addr}
    {sl27 : Array (Option Value)}
    {oc27 kV27 dc27 pm27 cd27 ct27 : Value}
    {f28 : Addr}
    {od28 an28 : Option Addr}
    {sl28 : Array (Option Value)}
    {oc28 kV28 dc28 pm28 cd28 ct28 : Value}
    {f29 : Addr}
    {od29 an29 : Option Addr}
    {sl29 : Array (Option Value)}
    {oc29 kV29 dc29 pm29 cd29 ct29 : Value}
    {f30 : Addr}
    {od30 an30 : Option Addr}
    {sl30 : Array (Option Value)}
    {oc30 kV30 dc30 pm30 cd30 ct30 : Value}
    {f31 : Addr}
    {od31 an31 : Option Addr}
    {sl31 : Array (Option Value)}
    {oc31 kV31 dc31 pm31 cd31 ct31 : Value}
    {f32 : Addr}
    {od32 an32 : Option Addr}
    {sl32 : Array (Option Value)}
    {oc32 kV32 dc32 pm32 cd32 ct32 : Value}
    {f33 : Addr}
    {od33 an33 : Option Addr}
    {sl33 : Array (Option Value)}
    {oc33 kV33 dc33 pm33 cd33 ct33 : Value}
    {f34 : Addr}
    {od34 an34 : Option Addr}
    {sl34 : Array (Option Value)}
    {oc34 kV34 dc34 pm34 cd34 ct34 : Value}
    {f35 : Addr}
    {od35 an35 : Option Addr}
    {sl35 : Array (Option Value)}
    {oc35 kV35 dc35 pm35 cd35 ct35 : Value}
    {f36 : Addr}
    {od36 an36 : Option Addr}
    {sl36 : Array (Option Value)}
    {oc36 kV36 dc36 pm36 cd36 ct36 : Value}
    {f37 : Addr}
    {od37 an37 : Option Addr}
    {sl37 : Array (Option Value)}
    {oc37 kV37 dc37 pm37 cd37 ct37 : Value}
    {f38 : Addr}
    {od38 an38 : Option Addr}
    {sl38 : Array (Option Value)}
    {oc38 kV38 dc38 pm38 cd38 ct38 : Value}
    {f39 : Addr}
    {od39 an39 : Option Addr}
    {sl39 : Array (Option Value)}
    {oc39 kV39 dc39 pm39 cd39 ct39 : Value}
    {f40 : Addr}
    {od40 an40 : Option Addr}
    {sl40 : Array (Option Value)}
    {oc40 kV40 dc40 pm40 cd40 ct40 : Value}
    {f41 : Addr}
    {od41 an41 : Option Addr}
    {sl41 : Array (Option Value)}
    {oc41 kV41 dc41 pm41 cd41 ct41 : Value}
    {f42 : Addr}
    {od42 an42 : Option Addr}
    {sl42 : Array (Option Value)}
    {oc42 kV42 dc42 pm42 cd42 ct42 : Value}
    {f43 : Addr}
    {od43 an43 : Option Addr}
    {sl43 : Array (Option Value)}
    {oc43 kV43 dc43 pm43 cd43 ct43 : Value}
    {f44 : Addr}
    {od44 an44 : Option Addr}
    {sl44 : Array (Option Value)}
    {oc44 kV44 dc44 pm44 cd44 ct44 : Value}
    {f45 : Addr}
    {od45 an45 : Option Addr}
    {sl45 : Array (Option Value)}
    {oc45 kV45 dc45 pm45 cd45 ct45 : Value}
    {f46 : Addr}
    {od46 an46 : Option Addr}
    {sl46 : Array (Option Value)}
    {oc46 kV46 dc46 pm46 cd46 ct46 : Value}
    {f47 : Addr}
    {od47 an47 : Option Addr}
    {sl47 : Array (Option Value)}
    {oc47 kV47 dc47 pm47 cd47 ct47 : Value}
    {f48 : Addr}
    {od48 an48 : Option Addr}
    {sl48 : Array (Option Value)}
    {oc48 kV48 dc48 pm48 cd48 ct48 : Value}
    {g_EACH_WORD_y0 : Addr}
    {g_EACH_WORD_t0_0 : Tok}
    {g_EACH_WORD_t0_1 : Tok}
    {g_EACH_WORD_t0_2 : Tok}
    {g_EACH_WORD_d0 : Option Addr}
    {g_EACH_WORD_n0 : Nat}
    {g_EACH_WORD_s0 : Array (Option Value)}
    {g_LONE_y0 : Addr}
    {g_LONE_t0_0 : Tok}
    {g_LONE_t0_1 : Tok}
    {g_LONE_d0 : Option Addr}
    {g_LONE_n0 : Nat}
    {g_LONE_s0 : Array (Option Value)}
    {g_MARKS_y0 : Addr}
    {g_MARKS_y1 : Addr}
    {g_MARKS_t1_0 : Tok}
    {g_MARKS_y2 : Addr}
    {g_MARKS_t2_0 : Tok}
    {g_MARKS_t2_1 : Tok}
    {g_MARKS_t2_2 : Tok}
    {g_MARKS_t2_3 : Tok}
    {g_MARKS_d2 : Option Addr}
    {g_MARKS_n2 : Nat}
    {g_MARKS_s2 : Array (Option Value)}
    {g_MARKS_d1 : Option Addr}
    {g_MARKS_n1 : Nat}
    {g_MARKS_s1 : Array (Option Value)}
    {g_MARKS_y3 : Addr}
    {g_MARKS_t3_0 : Tok}
    {g_MARKS_y4 : Addr}
    {g_MARKS_t4_0 : Tok}
    {g_MARKS_t4_1 : Tok}
    {g_MARKS_t4_2 : Tok}
    {g_MARKS_t4_3 : Tok}
    {g_MARKS_d4 : Option Addr}
    {g_MARKS_n4 : Nat}
    {g_MARKS_s4 : Array (Option Value)}
    {g_MARKS_d3 : Option Addr}
    {g_MARKS_n3 : Nat}
    {g_MARKS_s3 : Array (Option Value)}
    {g_MARKS_y5 : Addr}
    {g_MARKS_t5_0 : Tok}
    {g_MARKS_y6 : Addr}
    {g_MARKS_t6_0 : Tok}
    {g_MARKS_t6_1 : Tok}
    {g_MARKS_t6_2 : Tok}
    {g_MARKS_t6_3 : Tok}
    {g_MARKS_d6 : Option Addr}
    {g_MARKS_n6 : Nat}
    {g_MARKS_s6 : Array (Option Value)}
    {g_MARKS_d5 : Option Addr}
    {g_MARKS_n5 : Nat}
    {g_MARKS_s5 : Array (Option Value)}
    {g_MARKS_y7 : Addr}
    {g_MARKS_t7_0 : Tok}
    {g_MARKS_y8 : Addr}
    {g_MARKS_t8_0 : Tok}
    {g_MARKS_t8_1 : Tok}
    {g_MARKS_t8_2 : Tok}
    {g_MARKS_t8_3 : Tok}
    {g_MARKS_d8 : Option Addr}
    {g_MARKS_n8 : Nat}
    {g_MARKS_s8 : Array (Option Value)}
    {g_MARKS_d7 : Option Addr}
    {g_MARKS_n7 : Nat}
    {g_MARKS_s7 : Array (Option Value)}
    {g_MARKS_d0 : Option Addr}
    {g_MARKS_n0 : Nat}
    {g_MARKS_s0 : Array (Option Value)}
    {g_NIL_y0 : Addr}
    {g_NIL_t0_0 : Tok}
    {g_NIL_y1 : Addr}
    {g_NIL_t1_0 : Tok}
    {g_NIL_t1_1 : Tok}
    {g_NIL_t1_2 : Tok}
    {g_NIL_t1_3 : Tok}
    {g_NIL_d1 : Option Addr}
    {g_NIL_n1 : Nat}
    {g_NIL_s1 : Array (Option Value)}
    {g_NIL_d0 : Option Addr}
    {g_NIL_n0 : Nat}
    {g_NIL_s0 : Array (Option Value)}
    {g_PAIRED_y0 : Addr}
    {g_PAIRED_t0_0 : Tok}
    {g_PAIRED_t0_1 : Tok}
    {g_PAIRED_t0_2 : Tok}
    {g_PAIRED_t0_3 : Tok}
    {g_PAIRED_t0_4 : Tok}
    {g_PAIRED_t0_5 : Tok}
    {g_PAIRED_t0_6 : Tok}
    {g_PAIRED_t0_7 : Tok}
    {g_PAIRED_t0_8 : Tok}
    {g_PAIRED_t0_9 : Tok}
    {g_PAIRED_d0 : Option Addr}
    {g_PAIRED_n0 : Nat}
    {g_PAIRED_s0 : Array (Option Value)}
    {g_PAIRWISE_y0 : Addr}
    {g_PAIRWISE_t0_0 : Tok}
    {g_PAIRWISE_t0_1 : Tok}
    {g_PAIRWISE_t0_2 : Tok}
    {g_PAIRWISE_d0 : Option Addr}
    {g_PAIRWISE_n0 : Nat}
    {g_PAIRWISE_s0 : Array (Option Value)}
    {g_SEEN_y0 : Addr}
    {g_SEEN_t0_0 : Tok}
    {g_SEEN_y1 : Addr}
    {g_SEEN_t1_0 : Tok}
    {g_SEEN_t1_1 : Tok}
    {g_SEEN_t1_2 : Tok}
    {g_SEEN_t1_3 : Tok}
    {g_SEEN_d1 : Option Addr}
    {g_SEEN_n1 : Nat}
    {g_SEEN_s1 : Array (Option Value)}
    {g_SEEN_d0 : Option Addr}
    {g_SEEN_n0 : Nat}
    {g_SEEN_s0 : Array (Option Value)}
    {g_SHIFTS_y0 : Addr}
    {g_SHIFTS_t0_0 : Tok}
    {g_SHIFTS_t0_1 : Tok}
    {g_SHIFTS_t0_2 : Tok}
    {g_SHIFTS_t0_3 : Tok}
    {g_SHIFTS_d0 : Option Addr}
    {g_SHIFTS_n0 : Nat}
    {g_SHIFTS_s0 : Array (Option Value)}
    {g_SPARE_y0 : Addr}
    {g_SPARE_t0_0 : Tok}
    {g_SPARE_y1 : Addr}
    {g_SPARE_t1_0 : Tok}
    {g_SPARE_t1_1 : Tok}
    {g_SPARE_t1_2 : Tok}
    {g_SPARE_t1_3 : Tok}
    {g_SPARE_d1 : Option Addr}
    {g_SPARE_n1 : Nat}
    {g_SPARE_s1 : Array (Option Value)}
    {g_SPARE_d0 : Option Addr}
    {g_SPARE_n0 : Nat}
    {g_SPARE_s0 : Array (Option Value)}
    (a0 : PySem.W.nsIn K mainGlobals "word" = some (some (.ref f0)))
    (l0 : K.lookup f0 = some ⟨oc0, od0, .func (PySem.W.fnOf "word" "word" (defArgs zcU) (defBody zcU) (defScope zcU) (.ref dT0) kV0 dc0 pm0 an0 cd0 ct0), sl0⟩)
    (c0 : PySem.W.codeIn K cd0 "word" = true)
    (p0 : PySem.W.keepIn K (.ref f0) = true)
    (d0 : K.lookup dT0 = some ⟨.type "tuple", dd0, .seq #[.int 0 dk0_0, .int 0 dk0_1, .int 0 dk0_2, .int 0 dk0_3] dn0, ds0⟩)
    (a1 : PySem.W.nsIn K mainGlobals "last_word" = some (some (.ref f1)))
    (l1 : K.lookup f1 = some ⟨oc1, od1, .func (PySem.W.fnOf "last_word" "last_word" (defArgs zaq) (defBody zaq) (defScope zaq) .none kV1 dc1 pm1 an1 cd1 ct1), sl1⟩)
    (c1 : PySem.W.codeIn K cd1 "last_word" = true)
    (p1 : PySem.W.keepIn K (.ref f1) = true)
    (a2 : PySem.W.nsIn K mainGlobals "rows" = some (some (.ref f2)))
    (l2 : K.lookup f2 = some ⟨oc2, od2, .func (PySem.W.fnOf "rows" "rows" (defArgs zcV) (defBody zcV) (defScope zcV) .none kV2 dc2 pm2 an2 cd2 ct2), sl2⟩)
    (c2 : PySem.W.codeIn K cd2 "rows" = true)
    (p2 : PySem.W.keepIn K (.ref f2) = true)
    (a3 : PySem.W.nsIn K mainGlobals "rounds" = some (some (.ref f3)))
    (l3 : K.lookup f3 = some ⟨oc3, od3, .func (PySem.W.fnOf "rounds" "rounds" (defArgs zbR) (defBody zbR) (defScope zbR) .none kV3 dc3 pm3 an3 cd3 ct3), sl3⟩)
    (c3 : PySem.W.codeIn K cd3 "rounds" = true)
    (p3 : PySem.W.keepIn K (.ref f3) = true)
    (a4 : PySem.W.nsIn K mainGlobals "lowest" = some (some (.ref f4)))
    (l4 : K.lookup f4 = some ⟨oc4, od4, .func (PySem.W.fnOf "lowest" "lowest" (defArgs zbS) (defBody zbS) (defScope zbS) (.ref dT4) kV4 dc4 pm4 an4 cd4 ct4), sl4⟩)
    (c4 : PySem.W.codeIn K cd4 "lowest" = true)
    (p4 : PySem.W.keepIn K (.ref f4) = true)
    (d4 : K.lookup dT4 = some ⟨.type "tuple", dd4, .seq #[.int 0 dk4_0, .int 0 dk4_1, .int 0 dk4_2, .int 0 dk4_3] dn4, ds4⟩)
    (a5 : PySem.W.nsIn K mainGlobals "term" = some (some (.ref f5)))
    (l5 : K.lookup f5 = some ⟨oc5, od5, .func (PySem.W.fnOf "term" "term" (defArgs zdg) (defBody zdg) (defScope zdg) (.ref dT5) kV5 dc5 pm5 an5 cd5 ct5), sl5⟩)
    (c5 : PySem.W.codeIn K cd5 "term" = true)
    (p5 : PySem.W.keepIn K (.ref f5) = true)
    (d5 : K.lookup dT5 = some ⟨.type "tuple", dd5, .seq #[.int 0 dk5_0, .int 0 dk5_1, .int 0 dk5_2, .int 0 dk5_3] dn5, ds5⟩)
    (a6 : PySem.W.nsIn K mainGlobals "kept_mark" = some (some (.ref f6)))
    (l6 : K.lookup f6 = some ⟨oc6, od6, .func (PySem.W.fnOf "kept_mark" "kept_mark" (defArgs zaj) (defBody zaj) (defScope zaj) .none kV6 dc6 pm6 an6 cd6 ct6), sl6⟩)
    (c6 : PySem.W.codeIn K cd6 "kept_mark" = true)
    (p6 : PySem.W.keepIn K (.ref f6) = true)
    (a7 : PySem.W.nsIn K mainGlobals "kept_contrary" = some (some (.ref f7)))
    (l7 : K.lookup f7 = some ⟨oc7, od7, .func (PySem.W.fnOf "kept_contrary" "kept_contrary" (defArgs zT) (defBody zT) (defScope zT) .none kV7 dc7 pm7 an7 cd7 ct7), sl7⟩)
    (c7 : PySem.W.codeIn K cd7 "kept_contrary" = true)
    (p7 : PySem.W.keepIn K (.ref f7) = true)
    (a8 : PySem.W.nsIn K mainGlobals "asked_words" = some (some (.ref f8)))
    (l8 : K.lookup f8 = some ⟨oc8, od8, .func (PySem.W.fnOf "asked_words" "asked_words" (defArgs zO) (defBody zO) (defScope zO) .none kV8 dc8 pm8 an8 cd8 ct8), sl8⟩)
    (c8 : PySem.W.codeIn K cd8 "asked_words" = true)
    (p8 : PySem.W.keepIn K (.ref f8) = true)
    (a9 : PySem.W.nsIn K mainGlobals "answer_marks" = some (some (.ref f9)))
    (l9 : K.lookup f9 = some ⟨oc9, od9, .func (PySem.W.fnOf "answer_marks" "answer_marks" (defArgs zE) (defBody zE) (defScope zE) .none kV9 dc9 pm9 an9 cd9 ct9), sl9⟩)
    (c9 : PySem.W.codeIn K cd9 "answer_marks" = true)
    (p9 : PySem.W.keepIn K (.ref f9) = true)
    (a10 : PySem.W.nsIn K mainGlobals "sum_telling" = some (some (.ref f10)))
    (l10 : K.lookup f10 = some ⟨oc10, od10, .func (PySem.W.fnOf "sum_telling" "sum_telling" (defArgs zI) (defBody zI) (defScope zI) .none kV10 dc10 pm10 an10 cd10 ct10), sl10⟩)
    (c10 : PySem.W.codeIn K cd10 "sum_telling" = true)
    (p10 : PySem.W.keepIn K (.ref f10) = true)
    (a11 : PySem.W.nsIn K mainGlobals "difference_telling" = some (some (.ref f11)))
    (l11 : K.lookup f11 = some ⟨oc11, od11, .func (PySem.W.fnOf "difference_telling" "difference_telling" (defArgs zm) (defBody zm) (defScope zm) .none kV11 dc11 pm11 an11 cd11 ct11), sl11⟩)
    (c11 : PySem.W.codeIn K cd11 "difference_telling" = true)
    (p11 : PySem.W.keepIn K (.ref f11) = true)
    (a12 : PySem.W.nsIn K mainGlobals "turned_telling" = some (some (.ref f12)))
    (l12 : K.lookup f12 = some ⟨oc12, od12, .func (PySem.W.fnOf "turned_telling" "turned_telling" (defArgs zr) (defBody zr) (defScope zr) .none kV12 dc12 pm12 an12 cd12 ct12), sl12⟩)
    (c12 : PySem.W.codeIn K cd12 "turned_telling" = true)
    (p12 : PySem.W.keepIn K (.ref f12) = true)
    (a13 : PySem.W.nsIn K mainGlobals "bare_telling" = some (some (.ref f13)))
    (l13 : K.lookup f13 = some ⟨oc13, od13, .func (PySem.W.fnOf "bare_telling" "bare_telling" (defArgs zD) (defBody zD) (defScope zD) .none kV13 dc13 pm13 an13 cd13 ct13), sl13⟩)
    (c13 : PySem.W.codeIn K cd13 "bare_telling" = true)
    (p13 : PySem.W.keepIn K (.ref f13) = true)
    (a14 : PySem.W.nsIn K mainGlobals "carried" = some (some (.ref f14)))
    (l14 : K.lookup f14 = some ⟨oc14, od14, .func (PySem.W.fnOf "carried" "carried" (defArgs zal) (defBody zal) (defScope zal) .none kV14 dc14 pm14 an14 cd14 ct14), sl14⟩)
    (c14 : PySem.W.codeIn K cd14 "carried" = true)
    (p14 : PySem.W.keepIn K (.ref f14) = true)
    (a15 : PySem.W.nsIn K mainGlobals "lone_sign" = some (some (.ref f15)))
    (l15 : K.lookup f15 = some ⟨oc15, od15, .func (PySem.W.fnOf "lone_sign" "lone_sign" (defArgs z0) (defBody z0) (defScope z0) .none kV15 dc15 pm15 an15 cd15 ct15), sl15⟩)
    (c15 : PySem.W.codeIn K cd15 "lone_sign" = true)
    (p15 : PySem.W.keepIn K (.ref f15) = true)
    (a16 : PySem.W.nsIn K mainGlobals "telling" = some (some (.ref f16)))
    (l16 : K.lookup f16 = some ⟨oc16, od16, .func (PySem.W.fnOf "telling" "telling" (defArgs zay) (defBody zay) (defScope zay) .none kV16 dc16 pm16 an16 cd16 ct16), sl16⟩)
    (c16 : PySem.W.codeIn K cd16 "telling" = true)
    (p16 : PySem.W.keepIn K (.ref f16) = true)
    (a17 : PySem.W.nsIn K mainGlobals "is_deed" = some (some (.ref f17)))
    (l17 : K.lookup f17 = some ⟨oc17, od17, .func (PySem.W.fnOf "is_deed" "is_deed" (defArgs zad) (defBody zad) (defScope zad) .none kV17 dc17 pm17 an17 cd17 ct17), sl17⟩)
    (c17 : PySem.W.codeIn K cd17 "is_deed" = true)
    (p17 : PySem.W.keepIn K (.ref f17) = true)
    (a18 : PySem.W.nsIn K mainGlobals "named_telling" = some (some (.ref f18)))
    (l18 : K.lookup f18 = some ⟨oc18, od18, .func (PySem.W.fnOf "named_telling" "named_telling" (defArgs zH) (defBody zH) (defScope zH) .none kV18 dc18 pm18 an18 cd18 ct18), sl18⟩)
    (c18 : PySem.W.codeIn K cd18 "named_telling" = true)
    (p18 : PySem.W.keepIn K (.ref f18) = true)
    (a19 : PySem.W.nsIn K mainGlobals "_law_fresh" = some (some (.ref f19)))
    (l19 : K.lookup f19 = some ⟨oc19, od19, .func (PySem.W.fnOf "_law_fresh" "_law_fresh" (defArgs zbQ) (defBody zbQ) (defScope zbQ) .none kV19 dc19 pm19 an19 cd19 ct19), sl19⟩)
    (c19 : PySem.W.codeIn K cd19 "_law_fresh" = true)
    (p19 : PySem.W.keepIn K (.ref f19) = true)
    (a20 : PySem.W.nsIn K mainGlobals "_law_mixed" = some (some (.ref f20)))
    (l20 : K.lookup f20 = some ⟨oc20, od20, .func (PySem.W.fnOf "_law_mixed" "_law_mixed" (defArgs zbt) (defBody zbt) (defScope zbt) .none kV20 dc20 pm20 an20 cd20 ct20), sl20⟩)
    (c20 : PySem.W.codeIn K cd20 "_law_mixed" = true)
    (p20 : PySem.W.keepIn K (.ref f20) = true)
    (a21 : PySem.W.nsIn K mainGlobals "_law_fill" = some (some (.ref f21)))
    (l21 : K.lookup f21 = some ⟨oc21, od21, .func (PySem.W.fnOf "_law_fill" "_law_fill" (defArgs zb4) (defBody zb4) (defScope zb4) .none kV21 dc21 pm21 an21 cd21 ct21), sl21⟩)
    (c21 : PySem.W.codeIn K cd21 "_law_fill" = true)
    (p21 : PySem.W.keepIn K (.ref f21) = true)
    (a22 : PySem.W.nsIn K mainGlobals "_law_take" = some (some (.ref f22)))
    (l22 : K.lookup f22 = some ⟨oc22, od22, .func (PySem.W.fnOf "_law_take" "_law_take" (defArgs zck) (defBody zck) (defScope zck) .none kV22 dc22 pm22 an22 cd22 ct22), sl22⟩)
    (c22 : PySem.W.codeIn K cd22 "_law_take" = true)
    (p22 : PySem.W.keepIn K (.ref f22) = true)
    (a23 : PySem.W.nsIn K mainGlobals "_law_sizes" = some (some (.ref f23)))
    (l23 : K.lookup f23 = some ⟨oc23, od23, .func (PySem.W.fnOf "_law_sizes" "_law_sizes" (defArgs zbs) (defBody zbs) (defScope zbs) .none kV23 dc23 pm23 an23 cd23 ct23), sl23⟩)
    (c23 : PySem.W.codeIn K cd23 "_law_sizes" = true)
    (p23 : PySem.W.keepIn K (.ref f23) = true)
    (a24 : PySem.W.nsIn K mainGlobals "_law_worth" = some (some (.ref f24)))
    (l24 : K.lookup f24 = some ⟨oc24, od24, .func (PySem.W.fnOf "_law_worth" "_law_worth" (defArgs zbf) (defBody zbf) (defScope zbf) .none kV24 dc24 pm24 an24 cd24 ct24), sl24⟩)
    (c24 : PySem.W.codeIn K cd24 "_law_worth" = true)
    (p24 : PySem.W.keepIn K (.ref f24) = true)
    (a25 : PySem.W.nsIn K mainGlobals "_law_two_to" = some (some (.ref f25)))
    (l25 : K.lookup f25 = some ⟨oc25, od25, .func (PySem.W.fnOf "_law_two_to" "_law_two_to" (defArgs zaY) (defBody zaY) (defScope zaY) .none kV25 dc25 pm25 an25 cd25 ct25), sl25⟩)
    (c25 : PySem.W.codeIn K cd25 "_law_two_to" = true)
    (p25 : PySem.W.keepIn K (.ref f25) = true)
    (a26 : PySem.W.nsIn K mainGlobals "_law_words" = some (some (.ref f26)))
    (l26 : K.lookup f26 = some ⟨oc26, od26, .func (PySem.W.fnOf "_law_words" "_law_words" (defArgs za4) (defBody za4) (defScope za4) .none kV26 dc26 pm26 an26 cd26 ct26), sl26⟩)
    (c26 : PySem.W.codeIn K cd26 "_law_words" = true)
    (p26 : PySem.W.keepIn K (.ref f26) = true)
    (a27 : PySem.W.nsIn K mainGlobals "_law_whole" = some (some (.ref f27)))
    (l27 : K.lookup f27 = some ⟨oc27, od27, .func (PySem.W.fnOf "_law_whole" "_law_whole" (defArgs za3) (defBody za3) (defScope za3) .none kV27 dc27 pm27 an27 cd27 ct27), sl27⟩)
    (c27 : PySem.W.codeIn K cd27 "_law_whole" = true)
    (p27 : PySem.W.keepIn K (.ref f27) = true)
    (a28 : PySem.W.nsIn K mainGlobals "_law_wholes" = some (some (.ref f28)))
    (l28 : K.lookup f28 = some ⟨oc28, od28, .func (PySem.W.fnOf "_law_wholes" "_law_wholes" (defArgs zan) (defBody zan) (defScope zan) .none kV28 dc28 pm28 an28 cd28 ct28), sl28⟩)
    (c28 : PySem.W.codeIn K cd28 "_law_wholes" = true)
    (p28 : PySem.W.keepIn K (.ref f28) = true)
    (a29 : PySem.W.nsIn K mainGlobals "_law_letter" = some (some (.ref f29)))
    (l29 : K.lookup f29 = some ⟨oc29, od29, .func (PySem.W.fnOf "_law_letter" "_law_letter" (defArgs zaG) (defBody zaG) (defScope zaG) .none kV29 dc29 pm29 an29 cd29 ct29), sl29⟩)
    (c29 : PySem.W.codeIn K cd29 "_law_letter" = true)
    (p29 : PySem.W.keepIn K (.ref f29) = true)
    (a30 : PySem.W.nsIn K mainGlobals "_law_index_cell" = some (some (.ref f30)))
    (l30 : K.lookup f30 = some ⟨oc30, od30, .func (PySem.W.fnOf "_law_index_cell" "_law_index_cell" (defArgs zK) (defBody zK) (defScope zK) .none kV30 dc30 pm30 an30 cd30 ct30), sl30⟩)
    (c30 : PySem.W.codeIn K cd30 "_law_index_cell" = true)
    (p30 : PySem.W.keepIn K (.ref f30) = true)
    (a31 : PySem.W.nsIn K mainGlobals "_law_telling_row" = some (some (.ref f31)))
    (l31 : K.lookup f31 = some ⟨oc31, od31, .func (PySem.W.fnOf "_law_telling_row" "_law_telling_row" (defArgs zz) (defBody zz) (defScope zz) .none kV31 dc31 pm31 an31 cd31 ct31), sl31⟩)
    (c31 : PySem.W.codeIn K cd31 "_law_telling_row" = true)
    (p31 : PySem.W.keepIn K (.ref f31) = true)
    (a32 : PySem.W.nsIn K mainGlobals "_law_thing" = some (some (.ref f32)))
    (l32 : K.lookup f32 = some ⟨oc32, od32, .func (PySem.W.fnOf "_law_thing" "_law_thing" (defArgs zaL) (defBody zaL) (defScope zaL) .none kV32 dc32 pm32 an32 cd32 ct32), sl32⟩)
    (c32 : PySem.W.codeIn K cd32 "_law_thing" = true)
    (p32 : PySem.W.keepIn K (.ref f32) = true)
    (a33 : PySem.W.nsIn K mainGlobals "_law_is_sentence" = some (some (.ref f33)))
    (l33 : K.lookup f33 = some ⟨oc33, od33, .func (PySem.W.fnOf "_law_is_sentence" "_law_is_sentence" (defArgs zA) (defBody zA) (defScope zA) .none kV33 dc33 pm33 an33 cd33 ct33), sl33⟩)
    (c33 : PySem.W.codeIn K cd33 "_law_is_sentence" = true)
    (p33 : PySem.W.keepIn K (.ref f33) = true)
    (a34 : PySem.W.nsIn K mainGlobals "_law_part" = some (some (.ref f34)))
    (l34 : K.lookup f34 = some ⟨oc34, od34, .func (PySem.W.fnOf "_law_part" "_law_part" (defArgs zaR) (defBody zaR) (defScope zaR) .none kV34 dc34 pm34 an34 cd34 ct34), sl34⟩)
    (c34 : PySem.W.codeIn K cd34 "_law_part" = true)
    (p34 : PySem.W.keepIn K (.ref f34) = true)
    (a35 : PySem.W.nsIn K mainGlobals "_law_is_telling" = some (some (.ref f35)))
    (l35 : K.lookup f35 = some ⟨oc35, od35, .func (PySem.W.fnOf "_law_is_telling" "_law_is_telling" (defArgs zP) (defBody zP) (defScope zP) .none kV35 dc35 pm35 an35 cd35 ct35), sl35⟩)
    (c35 : PySem.W.codeIn K cd35 "_law_is_telling" = true)
    (p35 : PySem.W.keepIn K (.ref f35) = true)
    (a36 : PySem.W.nsIn K mainGlobals "_law_at" = some (some (.ref f36)))
    (l36 : K.lookup f36 = some ⟨oc36, od36, .func (PySem.W.fnOf "_law_at" "_law_at" (defArgs zgG) (defBody zgG) (defScope zgG) .none kV36 dc36 pm36 an36 cd36 ct36), sl36⟩)
    (c36 : PySem.W.codeIn K cd36 "_law_at" = true)
    (p36 : PySem.W.keepIn K (.ref f36) = true)
    (a37 : PySem.W.nsIn K mainGlobals "_law_plain_row" = some (some (.ref f37)))
    (l37 : K.lookup f37 = some ⟨oc37, od37, .func (PySem.W.fnOf "_law_plain_row" "_law_plain_row" (defArgs z3) (defBody z3) (defScope z3) .none kV37 dc37 pm37 an37 cd37 ct37), sl37⟩)
    (c37 : PySem.W.codeIn K cd37 "_law_plain_row" = true)
    (p37 : PySem.W.keepIn K (.ref f37) = true)
    (a38 : PySem.W.nsIn K mainGlobals "_law_one_done" = some (some (.ref f38)))
    (l38 : K.lookup f38 = some ⟨oc38, od38, .func (PySem.W.fnOf "_law_one_done" "_law_one_done" (defArgs zaA) (defBody zaA) (defScope zaA) .none kV38 dc38 pm38 an38 cd38 ct38), sl38⟩)
    (c38 : PySem.W.codeIn K cd38 "_law_one_done" = true)
    (p38 : PySem.W.keepIn K (.ref f38) = true)
    (a39 : PySem.W.nsIn K mainGlobals "_law_done" = some (some (.ref f39)))
    (l39 : K.lookup f39 = some ⟨oc39, od39, .func (PySem.W.fnOf "_law_done" "_law_done" (defArgs zbM) (defBody zbM) (defScope zbM) .none kV39 dc39 pm39 an39 cd39 ct39), sl39⟩)
    (c39 : PySem.W.codeIn K cd39 "_law_done" = true)
    (p39 : PySem.W.keepIn K (.ref f39) = true)
    (a40 : PySem.W.nsIn K mainGlobals "_law_count" = some (some (.ref f40)))
    (l40 : K.lookup f40 = some ⟨oc40, od40, .func (PySem.W.fnOf "_law_count" "_law_count" (defArgs zbT) (defBody zbT) (defScope zbT) .none kV40 dc40 pm40 an40 cd40 ct40), sl40⟩)
    (c40 : PySem.W.codeIn K cd40 "_law_count" = true)
    (p40 : PySem.W.keepIn K (.ref f40) = true)
    (a41 : PySem.W.nsIn K mainGlobals "_law_unrolled" = some (some (.ref f41)))
    (l41 : K.lookup f41 = some ⟨oc41, od41, .func (PySem.W.fnOf "_law_unrolled" "_law_unrolled" (defArgs zZ) (defBody zZ) (defScope zZ) .none kV41 dc41 pm41 an41 cd41 ct41), sl41⟩)
    (c41 : PySem.W.codeIn K cd41 "_law_unrolled" = true)
    (p41 : PySem.W.keepIn K (.ref f41) = true)
    (a42 : PySem.W.nsIn K mainGlobals "_law_rows_right" = some (some (.ref f42)))
    (l42 : K.lookup f42 = some ⟨oc42, od42, .func (PySem.W.fnOf "_law_rows_right" "_law_rows_right" (defArgs zX) (defBody zX) (defScope zX) .none kV42 dc42 pm42 an42 cd42 ct42), sl42⟩)
    (c42 : PySem.W.codeIn K cd42 "_law_rows_right" = true)
    (p42 : PySem.W.keepIn K (.ref f42) = true)
    (a43 : PySem.W.nsIn K mainGlobals "_law_begun" = some (some (.ref f43)))
    (l43 : K.lookup f43 = some ⟨oc43, od43, .func (PySem.W.fnOf "_law_begun" "_law_begun" (defArgs zbd) (defBody zbd) (defScope zbd) .none kV43 dc43 pm43 an43 cd43 ct43), sl43⟩)
    (c43 : PySem.W.codeIn K cd43 "_law_begun" = true)
    (p43 : PySem.W.keepIn K (.ref f43) = true)
    (a44 : PySem.W.nsIn K mainGlobals "_law_run" = some (some (.ref f44)))
    (l44 : K.lookup f44 = some ⟨oc44, od44, .func (PySem.W.fnOf "_law_run" "_law_run" (defArgs zcb) (defBody zcb) (defScope zcb) .none kV44 dc44 pm44 an44 cd44 ct44), sl44⟩)
    (c44 : PySem.W.codeIn K cd44 "_law_run" = true)
    (p44 : PySem.W.keepIn K (.ref f44) = true)
    (a45 : PySem.W.nsIn K mainGlobals "_law_read" = some (some (.ref f45)))
    (l45 : K.lookup f45 = some ⟨oc45, od45, .func (PySem.W.fnOf "_law_read" "_law_read" (defArgs zb7) (defBody zb7) (defScope zb7) .none kV45 dc45 pm45 an45 cd45 ct45), sl45⟩)
    (c45 : PySem.W.codeIn K cd45 "_law_read" = true)
    (p45 : PySem.W.keepIn K (.ref f45) = true)
    (a46 : PySem.W.nsIn K mainGlobals "_law_marks" = some (some (.ref f46)))
    (l46 : K.lookup f46 = some ⟨oc46, od46, .func (PySem.W.fnOf "_law_marks" "_law_marks" (defArgs zbe) (defBody zbe) (defScope zbe) .none kV46 dc46 pm46 an46 cd46 ct46), sl46⟩)
    (c46 : PySem.W.codeIn K cd46 "_law_marks" = true)
    (p46 : PySem.W.keepIn K (.ref f46) = true)
    (a47 : PySem.W.nsIn K mainGlobals "_law_words_told" = some (some (.ref f47)))
    (l47 : K.lookup f47 = some ⟨oc47, od47, .func (PySem.W.fnOf "_law_words_told" "_law_words_told" (defArgs zM) (defBody zM) (defScope zM) .none kV47 dc47 pm47 an47 cd47 ct47), sl47⟩)
    (c47 : PySem.W.codeIn K cd47 "_law_words_told" = true)
    (p47 : PySem.W.keepIn K (.ref f47) = true)
    (a48 : PySem.W.nsIn K mainGlobals "law" = some (some (.ref f48)))
    (l48 : K.lookup f48 = some ⟨oc48, od48, .func (PySem.W.fnOf "law" "law" (defArgs zdk) (defBody zdk) (defScope zdk) .none kV48 dc48 pm48 an48 cd48 ct48), sl48⟩)
    (c48 : PySem.W.codeIn K cd48 "law" = true)
    (p48 : PySem.W.keepIn K (.ref f48) = true)
    (z_abs : PySem.W.nsIn K mainGlobals "abs" = some none)
    (z_all : PySem.W.nsIn K mainGlobals "all" = some none)
    (z_bool : PySem.W.nsIn K mainGlobals "bool" = some none)
    (z_enumerate : PySem.W.nsIn K mainGlobals "enumerate" = some none)
    (z_int : PySem.W.nsIn K mainGlobals "int" = some none)
    (z_isinstance : PySem.W.nsIn K mainGlobals "isinstance" = some none)
    (z_len : PySem.W.nsIn K mainGlobals "len" = some none)
    (z_min : PySem.W.nsIn K mainGlobals "min" = some none)
    (z_range : PySem.W.nsIn K mainGlobals "range" = some none)
    (z_str : PySem.W.nsIn K mainGlobals "str" = some none)
    (z_tuple : PySem.W.nsIn K mainGlobals "tuple" = some none)
    (k_bool_n : PySem.W.kitOne K (.type "NoneType") (.type "bool") = some false)
    (k_bool_b : PySem.W.kitOne K (.type "bool") (.type "bool") = some true)
    (k_bool_i : PySem.W.kitOne K (.type "int") (.type "bool") = some false)
    (k_bool_s : PySem.W.kitOne K (.type "str") (.type "bool") = some false)
    (k_bool_p : PySem.W.kitOne K (.type "tuple") (.type "bool") = some false)
    (k_bool_l : PySem.W.kitOne K (.type "list") (.type "bool") = some false)
    (k_int_n : PySem.W.kitOne K (.type "NoneType") (.type "int") = some false)
    (k_int_b : PySem.W.kitOne K (.type "bool") (.type "int") = some true)
    (k_int_i : PySem.W.kitOne K (.type "int") (.type "int") = some true)
    (k_int_s : PySem.W.kitOne K (.type "str") (.type "int") = some false)
    (k_int_p : PySem.W.kitOne K (.type "tuple") (.type "int") = some false)
    (k_int_l : PySem.W.kitOne K (.type "list") (.type "int") = some false)
    (k_str_n : PySem.W.kitOne K (.type "NoneType") (.type "str") = some false)
    (k_str_b : PySem.W.kitOne K (.type "bool") (.type "str") = some false)
    (k_str_i : PySem.W.kitOne K (.type "int") (.type "str") = some false)
    (k_str_s : PySem.W.kitOne K (.type "str") (.type "str") = some true)
    (k_str_p : PySem.W.kitOne K (.type "tuple") (.type "str") = some false)
    (k_str_l : PySem.W.kitOne K (.type "list") (.type "str") = some false)
    (k_tuple_n : PySem.W.kitOne K (.type "NoneType") (.type "tuple") = some false)
    (k_tuple_b : PySem.W.kitOne K (.type "bool") (.type "tuple") = some false)
    (k_tuple_i : PySem.W.kitOne K (.type "int") (.type "tuple") = some false)
    (k_tuple_s : PySem.W.kitOne K (.type "str") (.type "tuple") = some false)
    (k_tuple_p : PySem.W.kitOne K (.type "tuple") (.type "tuple") = some true)
    (k_tuple_l : PySem.W.kitOne K (.type "list") (.type "tuple") = some false)
    (g_EACH_WORD_a : PySem.W.nsIn K mainGlobals "EACH_WORD" = some (some (.ref g_EACH_WORD_y0)))
    (g_EACH_WORD_l0 : K.lookup g_EACH_WORD_y0 = some ⟨.type "tuple", g_EACH_WORD_d0, .seq #[.int 0 g_EACH_WORD_t0_0, .int 1 g_EACH_WORD_t0_1, .int 0 g_EACH_WORD_t0_2] g_EACH_WORD_n0, g_EACH_WORD_s0⟩)
    (g_LONE_a : PySem.W.nsIn K mainGlobals "LONE" = some (some (.ref g_LONE_y0)))
    (g_LONE_l0 : K.lookup g_LONE_y0 = some ⟨.type "tuple", g_LONE_d0, .seq #[.str "turned" g_LONE_t0_0, .str "bare" g_LONE_t0_1] g_LONE_n0, g_LONE_s0⟩)
    (g_MARKS_a : PySem.W.nsIn K mainGlobals "MARKS" = some (some (.ref g_MARKS_y0)))
    (g_MARKS_l0 : K.lookup g_MARKS_y0 = some ⟨.type "tuple", g_MARKS_d0, .seq #[.ref g_MARKS_y1, .ref g_MARKS_y3, .ref g_MARKS_y5, .ref g_MARKS_y7] g_MARKS_n0, g_MARKS_s0⟩)
    (g_MARKS_l1 : K.lookup g_MARKS_y1 = some ⟨.type "tuple", g_MARKS_d1, .seq #[.str "m" g_MARKS_t1_0, .ref g_MARKS_y2] g_MARKS_n1, g_MARKS_s1⟩)
    (g_MARKS_l2 : K.lookup g_MARKS_y2 = some ⟨.type "tuple", g_MARKS_d2, .seq #[.int 0 g_MARKS_t2_0, .int 0 g_MARKS_t2_1, .int 0 g_MARKS_t2_2, .int 0 g_MARKS_t2_3] g_MARKS_n2, g_MARKS_s2⟩)
    (g_MARKS_l3 : K.lookup g_MARKS_y3 = some ⟨.type "tuple", g_MARKS_d3, .seq #[.str "m" g_MARKS_t3_0, .ref g_MARKS_y4] g_MARKS_n3, g_MARKS_s3⟩)
    (g_MARKS_l4 : K.lookup g_MARKS_y4 = some ⟨.type "tuple", g_MARKS_d4, .seq #[.int 1 g_MARKS_t4_0, .int 0 g_MARKS_t4_1, .int 0 g_MARKS_t4_2, .int 0 g_MARKS_t4_3] g_MARKS_n4, g_MARKS_s4⟩)
    (g_MARKS_l5 : K.lookup g_MARKS_y5 = some ⟨.type "tuple", g_MARKS_d5, .seq #[.str "m" g_MARKS_t5_0, .ref g_MARKS_y6] g_MARKS_n5, g_MARKS_s5⟩)
    (g_MARKS_l6 : K.lookup g_MARKS_y6 = some ⟨.type "tuple", g_MARKS_d6, .seq #[.int 2 g_MARKS_t6_0, .int 0 g_MARKS_t6_1, .int 0 g_MARKS_t6_2, .int 0 g_MARKS_t6_3] g_MARKS_n6, g_MARKS_s6⟩)
    (g_MARKS_l7 : K.lookup g_MARKS_y7 = some ⟨.type "tuple", g_MARKS_d7, .seq #[.str "m" g_MARKS_t7_0, .ref g_MARKS_y8] g_MARKS_n7, g_MARKS_s7⟩)
    (g_MARKS_l8 : K.lookup g_MARKS_y8 = some ⟨.type "tuple", g_MARKS_d8, .seq #[.int 3 g_MARKS_t8_0, .int 0 g_MARKS_t8_1, .int 0 g_MARKS_t8_2, .int 0 g_MARKS_t8_3] g_MARKS_n8, g_MARKS_s8⟩)
    (g_NIL_a : PySem.W.nsIn K mainGlobals "NIL" = some (some (.ref g_NIL_y0)))
    (g_NIL_l0 : K.lookup g_NIL_y0 = some ⟨.type "tuple", g_NIL_d0, .seq #[.str "z" g_NIL_t0_0, .ref g_NIL_y1] g_NIL_n0, g_NIL_s0⟩)
    (g_NIL_l1 : K.lookup g_NIL_y1 = some ⟨.type "tuple", g_NIL_d1, .seq #[.int 0 g_NIL_t1_0, .int 0 g_NIL_t1_1, .int 0 g_NIL_t1_2, .int 0 g_NIL_t1_3] g_NIL_n1, g_NIL_s1⟩)
    (g_PAIRED_a : PySem.W.nsIn K mainGlobals "PAIRED" = some (some (.ref g_PAIRED_y0)))
    (g_PAIRED_l0 : K.lookup g_PAIRED_y0 = some ⟨.type "tuple", g_PAIRED_d0, .seq #[.str "sum" g_PAIRED_t0_0, .str "difference" g_PAIRED_t0_1, .str "compare" g_PAIRED_t0_2, .str "both" g_PAIRED_t0_3, .str "any" g_PAIRED_t0_4, .str "odd" g_PAIRED_t0_5, .str "product" g_PAIRED_t0_6, .str "signed product" g_PAIRED_t0_7, .str "quotient" g_PAIRED_t0_8, .str "signed quotient" g_PAIRED_t0_9] g_PAIRED_n0, g_PAIRED_s0⟩)
    (g_PAIRWISE_a : PySem.W.nsIn K mainGlobals "PAIRWISE" = some (some (.ref g_PAIRWISE_y0)))
    (g_PAIRWISE_l0 : K.lookup g_PAIRWISE_y0 = some ⟨.type "tuple", g_PAIRWISE_d0, .seq #[.str "both" g_PAIRWISE_t0_0, .str "any" g_PAIRWISE_t0_1, .str "odd" g_PAIRWISE_t0_2] g_PAIRWISE_n0, g_PAIRWISE_s0⟩)
    (g_SEEN_a : PySem.W.nsIn K mainGlobals "SEEN" = some (some (.ref g_SEEN_y0)))
    (g_SEEN_l0 : K.lookup g_SEEN_y0 = some ⟨.type "tuple", g_SEEN_d0, .seq #[.str "s" g_SEEN_t0_0, .ref g_SEEN_y1] g_SEEN_n0, g_SEEN_s0⟩)
    (g_SEEN_l1 : K.lookup g_SEEN_y1 = some ⟨.type "tuple", g_SEEN_d1, .seq #[.int 0 g_SEEN_t1_0, .int 0 g_SEEN_t1_1, .int 0 g_SEEN_t1_2, .int 0 g_SEEN_t1_3] g_SEEN_n1, g_SEEN_s1⟩)
    (g_SHIFTS_a : PySem.W.nsIn K mainGlobals "SHIFTS" = some (some (.ref g_SHIFTS_y0)))
    (g_SHIFTS_l0 : K.lookup g_SHIFTS_y0 = some ⟨.type "tuple", g_SHIFTS_d0, .seq #[.str "left" g_SHIFTS_t0_0, .str "right" g_SHIFTS_t0_1, .str "down" g_SHIFTS_t0_2, .str "roll" g_SHIFTS_t0_3] g_SHIFTS_n0, g_SHIFTS_s0⟩)
    (g_SPARE_a : PySem.W.nsIn K mainGlobals "SPARE" = some (some (.ref g_SPARE_y0)))
    (g_SPARE_l0 : K.lookup g_SPARE_y0 = some ⟨.type "tuple", g_SPARE_d0, .seq #[.str "t" g_SPARE_t0_0, .ref g_SPARE_y1] g_SPARE_n0, g_SPARE_s0⟩)
    (g_SPARE_l1 : K.lookup g_SPARE_y1 = some ⟨.type "tuple", g_SPARE_d1, .seq #[.int 0 g_SPARE_t1_0, .int 0 g_SPARE_t1_1, .int 0 g_SPARE_t1_2, .int 0 g_SPARE_t1_3] g_SPARE_n1, g_SPARE_s1⟩)
    : ∃ fd : FuncData, (∀ (s : Shared) (v : Value), BindsTo s fd ⟨[v], []⟩ [("_law_script", v)]) /\ ∀ base : Heap, K.In base -> base.Ns mainGlobals mg -> FnOk l.prog w K mg base (CX1 l.prog w) 12 fx fd ["_law_script"] (spI K clx (callT T 12) zkO) := by
  have e := hfa.symm.trans (PySem.W.mg_of X G a48)
  cases e
  have Z : Facts K mg clx (fun i => ([f0, f1, f2, f3, f4, f5, f6, f7, f8, f9, f10, f11, f12, f13, f14, f15, f16, f17, f18, f19, f20, f21, f22, f23, f24, f25, f26, f27, f28, f29, f30, f31, f32, f33, f34, f35, f36, f37, f38, f39, f40, f41, f42, f43, f44, f45, f46, f47, fx] : List Addr).getD i 0) (fun i => match i with
    | 0 => (PySem.W.fnOf "word" "word" (defArgs zcU) (defBody zcU) (defScope zcU) (.ref dT0) kV0 dc0 pm0 an0 cd0 ct0)
    | 1 => (PySem.W.fnOf "last_word" "last_word" (defArgs zaq) (defBody zaq) (defScope zaq) .none kV1 dc1 pm1 an1 cd1 ct1)
    | 2 => (PySem.W.fnOf "rows" "rows" (defArgs zcV) (defBody zcV) (defScope zcV) .none kV2 dc2 pm2 an2 cd2 ct2)
    | 3 => (PySem.W.fnOf "rounds" "rounds" (defArgs zbR) (defBody zbR) (defScope zbR) .none kV3 dc3 pm3 an3 cd3 ct3)
    | 4 => (PySem.W.fnOf "lowest" "lowest" (defArgs zbS) (defBody zbS) (defScope zbS) (.ref dT4) kV4 dc4 pm4 an4 cd4 ct4)
    | 5 => (PySem.W.fnOf "term" "term" (defArgs zdg) (defBody zdg) (defScope zdg) (.ref dT5) kV5 dc5 pm5 an5 cd5 ct5)
    | 6 => (PySem.W.fnOf "kept_mark" "kept_mark" (defArgs zaj) (defBody zaj) (defScope zaj) .none kV6 dc6 pm6 an6 cd6 ct6)
    | 7 => (PySem.W.fnOf "kept_contrary" "kept_contrary" (defArgs zT) (defBody zT) (defScope zT) .none kV7 dc7 pm7 an7 cd7 ct7)
    | 8 => (PySem.W.fnOf "asked_words" "asked_words" (defArgs zO) (defBody zO) (defScope zO) .none kV8 dc8 pm8 an8 cd8 ct8)
    | 9 => (PySem.W.fnOf "answer_marks" "answer_marks" (defArgs zE) (defBody zE) (defScope zE) .none kV9 dc9 pm9 an9 cd9 ct9)
    | 10 => (PySem.W.fnOf "sum_telling" "sum_telling" (defArgs zI) (defBody zI) (defScope zI) .none kV10 dc10 pm10 an10 cd10 ct10)
    | 11 => (PySem.W.fnOf "difference_telling" "difference_telling" (defArgs zm) (defBody zm) (defScope zm) .none kV11 dc11 pm11 an11 cd11 ct11)
    | 12 => (PySem.W.fnOf "turned_telling" "turned_telling" (defArgs zr) (defBody zr) (defScope zr) .none kV12 dc12 pm12 an12 cd12 ct12)
    | 13 => (PySem.W.fnOf "bare_telling" "bare_telling" (defArgs zD) (defBody zD) (defScope zD) .none kV13 dc13 pm13 an13 cd13 ct13)
    | 14 => (PySem.W.fnOf "carried" "carried" (defArgs zal) (defBody zal) (defScope zal) .none kV14 dc14 pm14 an14 cd14 ct14)
    | 15 => (PySem.W.fnOf "lone_sign" "lone_sign" (defArgs z0) (defBody z0) (defScope z0) .none kV15 dc15 pm15 an15 cd15 ct15)
    | 16 => (PySem.W.fnOf "telling" "telling" (defArgs zay) (defBody zay) (defScope zay) .none kV16 dc16 pm16 an16 cd16 ct16)
    | 17 => (PySem.W.fnOf "is_deed" "is_deed" (defArgs zad) (defBody zad) (defScope zad) .none kV17 dc17 pm17 an17 cd17 ct17)
    | 18 => (PySem.W.fnOf "named_telling" "named_telling" (defArgs zH) (defBody zH) (defScope zH) .none kV18 dc18 pm18 an18 cd18 ct18)
    | 19 => (PySem.W.fnOf "_law_fresh" "_law_fresh" (defArgs zbQ) (defBody zbQ) (defScope zbQ) .none kV19 dc19 pm19 an19 cd19 ct19)
    | 20 => (PySem.W.fnOf "_law_mixed" "_law_mixed" (defArgs zbt) (defBody zbt) (defScope zbt) .none kV20 dc20 pm20 an20 cd20 ct20)
    | 21 => (PySem.W.fnOf "_law_fill" "_law_fill" (defArgs zb4) (defBody zb4) (defScope zb4) .none kV21 dc21 pm21 an21 cd21 ct21)
    | 22 => (PySem.W.fnOf "_law_take" "_law_take" (defArgs zck) (defBody zck) (defScope zck) .none kV22 dc22 pm22 an22 cd22 ct22)
    | 23 => (PySem.W.fnOf "_law_sizes" "_law_sizes" (defArgs zbs) (defBody zbs) (defScope zbs) .none kV23 dc23 pm23 an23 cd23 ct23)
    | 24 => (PySem.W.fnOf "_law_worth" "_law_worth" (defArgs zbf) (defBody zbf) (defScope zbf) .none kV24 dc24 pm24 an24 cd24 ct24)
    | 25 => (PySem.W.fnOf "_law_two_to" "_law_two_to" (defArgs zaY) (defBody zaY) (defScope zaY) .none kV25 dc25 pm25 an25 cd25 ct25)
    | 26 => (PySem.W.fnOf "_law_words" "_law_words" (defArgs za4) (defBody za4) (defScope za4) .none kV26 dc26 pm26 an26 cd26 ct26)
    | 27 => (PySem.W.fnOf "_law_whole" "_law_whole" (defArgs za3) (defBody za3) (defScope za3) .none kV27 dc27 pm27 an27 cd27 ct27)
    | 28 => (PySem.W.fnOf "_law_wholes" "_law_wholes" (defArgs zan) (defBody zan) (defScope zan) .none kV28 dc28 pm28 an28 cd28 ct28)
    | 29 => (PySem.W.fnOf "_law_letter" "_law_letter" (defArgs zaG) (defBody zaG) (defScope zaG) .none kV29 dc29 pm29 an29 cd29 ct29)
    | 30 => (PySem.W.fnOf "_law_index_cell" "_law_index_cell" (defArgs zK) (defBody zK) (defScope zK) .none kV30 dc30 pm30 an30 cd30 ct30)
    | 31 => (PySem.W.fnOf "_law_telling_row" "_law_telling_row" (defArgs zz) (defBody zz) (defScope zz) .none kV31 dc31 pm31 an31 cd31 ct31)
    | 32 => (PySem.W.fnOf "_law_thing" "_law_thing" (defArgs zaL) (defBody zaL) (defScope zaL) .none kV32 dc32 pm32 an32 cd32 ct32)
    | 33 => (PySem.W.fnOf "_law_is_sentence" "_law_is_sentence" (defArgs zA) (defBody zA) (defScope zA) .none kV33 dc33 pm33 an33 cd33 ct33)
    | 34 => (PySem.W.fnOf "_law_part" "_law_part" (defArgs zaR) (defBody zaR) (defScope zaR) .none kV34 dc34 pm34 an34 cd34 ct34)
    | 35 => (PySem.W.fnOf "_law_is_telling" "_law_is_telling" (defArgs zP) (defBody zP) (defScope zP) .none kV35 dc35 pm35 an35 cd35 ct35)
    | 36 => (PySem.W.fnOf "_law_at" "_law_at" (defArgs zgG) (defBody zgG) (defScope zgG) .none kV36 dc36 pm36 an36 cd36 ct36)
    | 37 => (PySem.W.fnOf "_law_plain_row" "_law_plain_row" (defArgs z3) (defBody z3) (defScope z3) .none kV37 dc37 pm37 an37 cd37 ct37)
    | 38 => (PySem.W.fnOf "_law_one_done" "_law_one_done" (defArgs zaA) (defBody zaA) (defScope zaA) .none kV38 dc38 pm38 an38 cd38 ct38)
    | 39 => (PySem.W.fnOf "_law_done" "_law_done" (defArgs zbM) (defBody zbM) (defScope zbM) .none kV39 dc39 pm39 an39 cd39 ct39)
    | 40 => (PySem.W.fnOf "_law_count" "_law_count" (defArgs zbT) (defBody zbT) (defScope zbT) .none kV40 dc40 pm40 an40 cd40 ct40)
    | 41 => (PySem.W.fnOf "_law_unrolled" "_law_unrolled" (defArgs zZ) (defBody zZ) (defScope zZ) .none kV41 dc41 pm41 an41 cd41 ct41)
    | 42 => (PySem.W.fnOf "_law_rows_right" "_law_rows_right" (defArgs zX) (defBody zX) (defScope zX) .none kV42 dc42 pm42 an42 cd42 ct42)
    | 43 => (PySem.W.fnOf "_law_begun" "_law_begun" (defArgs zbd) (defBody zbd) (defScope zbd) .none kV43 dc43 pm43 an43 cd43 ct43)
    | 44 => (PySem.W.fnOf "_law_run" "_law_run" (defArgs zcb) (defBody zcb) (defScope zcb) .none kV44 dc44 pm44 an44 cd44 ct44)
    | 45 => (PySem.W.fnOf "_law_read" "_law_read" (defArgs zb7) (defBody zb7) (defScope zb7) .none kV45 dc45 pm45 an45 cd45 ct45)
    | 46 => (PySem.W.fnOf "_law_marks" "_law_marks" (defArgs zbe) (defBody zbe) (defScope zbe) .none kV46 dc46 pm46 an46 cd46 ct46)
    | 47 => (PySem.W.fnOf "_law_words_told" "_law_words_told" (defArgs zM) (defBody zM) (defScope zM) .none kV47 dc47 pm47 an47 cd47 ct47)
    | 48 => (PySem.W.fnOf "law" "law" (defArgs zdk) (defBody zdk) (defScope zdk) .none kV48 dc48 pm48 an48 cd48 ct48)
    | _ => (PySem.W.fnOf "law" "law" (defArgs zdk) (defBody zdk) (defScope zdk) .none kV48 dc48 pm48 an48 cd48 ct48)) := {
    F0 := ⟨⟨_, _, dT0, _, _, _, _, _, _, _, _, _, _, rfl, l0, c0, d0, rfl, .cons ⟨_, rfl⟩ (.cons ⟨_, rfl⟩ (.cons ⟨_, rfl⟩ (.cons ⟨_, rfl⟩ (.nil))))⟩, p0, PySem.W.mg_of X G a0⟩
    F1 := zat (st := zaq) (ps := ["letter"]) X G a1 l1 c1 p1 fun _ _ _ _ _ _ us hl => match us, hl with | [_], _ => rfl
    F2 := zat (st := zcV) (ps := ["told"]) X G a2 l2 c2 p2 fun _ _ _ _ _ _ us hl => match us, hl with | [_], _ => rfl
    F3 := zat (st := zbR) (ps := ["count", "sentence", "inner"]) X G a3 l3 c3 p3 fun _ _ _ _ _ _ us hl => match us, hl with | [_, _, _], _ => rfl
    F4 := ⟨⟨_, _, dT4, _, _, _, _, _, _, _, _, _, _, rfl, l4, c4, d4, rfl, .cons ⟨_, rfl⟩ (.cons ⟨_, rfl⟩ (.cons ⟨_, rfl⟩ (.cons ⟨_, rfl⟩ (.nil))))⟩, p4, PySem.W.mg_of X G a4⟩
    F5 := ⟨⟨_, _, dT5, _, _, _, _, _, _, _, _, _, _, rfl, l5, c5, d5, rfl, .cons ⟨_, rfl⟩ (.cons ⟨_, rfl⟩ (.cons ⟨_, rfl⟩ (.cons ⟨_, rfl⟩ (.nil))))⟩, p5, PySem.W.mg_of X G a5⟩
    F6 := zat (st := zaj) (ps := ["to"]) X G a6 l6 c6 p6 fun _ _ _ _ _ _ us hl => match us, hl with | [_], _ => rfl
    F7 := zat (st := zT) (ps := ["to"]) X G a7 l7 c7 p7 fun _ _ _ _ _ _ us hl => match us, hl with | [_], _ => rfl
    F8 := zat (st := zO) (ps := ["letter", "m", "count"]) X G a8 l8 c8 p8 fun _ _ _ _ _ _ us hl => match us, hl with | [_, _, _], _ => rfl
    F9 := zat (st := zE) (ps := ["c", "m"]) X G a9 l9 c9 p9 fun _ _ _ _ _ _ us hl => match us, hl with | [_, _], _ => rfl
    F10 := zat (st := zI) (ps := []) X G a10 l10 c10 p10 fun _ _ _ _ _ _ us hl => match us, hl with | [], _ => rfl
    F11 := zat (st := zm) (ps := []) X G a11 l11 c11 p11 fun _ _ _ _ _ _ us hl => match us, hl with | [], _ => rfl
    F12 := zat (st := zr) (ps := []) X G a12 l12 c12 p12 fun _ _ _ _ _ _ us hl => match us, hl with | [], _ => rfl
    F13 := zat (st := zD) (ps := []) X G a13 l13 c13 p13 fun _ _ _ _ _ _ us hl => match us, hl with | [], _ => rfl
    F14 := zat (st := zal) (ps := ["row", "sentence"]) X G a14 l14 c14 p14 fun _ _ _ _ _ _ us hl => match us, hl with | [_, _], _ => rfl
    F15 := zat (st := z0) (ps := ["lone", "one", "other"]) X G a15 l15 c15 p15 fun _ _ _ _ _ _ us hl => match us, hl with | [_, _, _], _ => rfl
    F16 := zat (st := zay) (ps := ["deed"]) X G a16 l16 c16 p16 fun _ _ _ _ _ _ us hl => match us, hl with | [_], _ => rfl
    F17 := zat (st := zad) (ps := ["thing"]) X G a17 l17 c17 p17 fun _ _ _ _ _ _ us hl => match us, hl with | [_], _ => rfl
    F18 := zat (st := zH) (ps := ["name"]) X G a18 l18 c18 p18 fun _ _ _ _ _ _ us hl => match us, hl with | [_], _ => rfl
    F19 := zat (st := zbQ) (ps := ["_law_script"]) X G a19 l19 c19 p19 fun _ _ _ _ _ _ us hl => match us, hl with | [_], _ => rfl
    F20 := zat (st := zbt) (ps := ["_law_seed"]) X G a20 l20 c20 p20 fun _ _ _ _ _ _ us hl => match us, hl with | [_], _ => rfl
    F21 := zat (st := zb4) (ps := ["_law_state"]) X G a21 l21 c21 p21 fun _ _ _ _ _ _ us hl => match us, hl with | [_], _ => rfl
    F22 := zat (st := zck) (ps := ["_law_state", "_law_many"]) X G a22 l22 c22 p22 fun _ _ _ _ _ _ us hl => match us, hl with | [_, _], _ => rfl
    F23 := zat (st := zbs) (ps := ["_law_state", "_law_most"]) X G a23 l23 c23 p23 fun _ _ _ _ _ _ us hl => match us, hl with | [_, _], _ => rfl
    F24 := zat (st := zbf) (ps := ["_law_state", "_law_w", "_law_n"]) X G a24 l24 c24 p24 fun _ _ _ _ _ _ us hl => match us, hl with | [_, _, _], _ => rfl
    F25 := zat (st := zaY) (ps := ["_law_many"]) X G a25 l25 c25 p25 fun _ _ _ _ _ _ us hl => match us, hl with | [_], _ => rfl
    F26 := zat (st := za4) (ps := ["_law_worth_here", "_law_w", "_law_n"]) X G a26 l26 c26 p26 fun _ _ _ _ _ _ us hl => match us, hl with | [_, _, _], _ => rfl
    F27 := zat (st := za3) (ps := ["_law_thing_here"]) X G a27 l27 c27 p27 fun _ _ _ _ _ _ us hl => match us, hl with | [_], _ => rfl
    F28 := zat (st := zan) (ps := ["_law_thing_here", "_law_many", "_law_most"]) X G a28 l28 c28 p28 fun _ _ _ _ _ _ us hl => match us, hl with | [_, _, _], _ => rfl
    F29 := zat (st := zaG) (ps := ["_law_thing_here"]) X G a29 l29 c29 p29 fun _ _ _ _ _ _ us hl => match us, hl with | [_], _ => rfl
    F30 := zat (st := zK) (ps := ["_law_thing_here"]) X G a30 l30 c30 p30 fun _ _ _ _ _ _ us hl => match us, hl with | [_], _ => rfl
    F31 := zat (st := zz) (ps := ["_law_row"]) X G a31 l31 c31 p31 fun _ _ _ _ _ _ us hl => match us, hl with | [_], _ => rfl
    F32 := zat (st := zaL) (ps := ["_law_thing_here"]) X G a32 l32 c32 p32 fun _ _ _ _ _ _ us hl => match us, hl with | [_], _ => rfl
    F33 := zat (st := zA) (ps := ["_law_told"]) X G a33 l33 c33 p33 fun _ _ _ _ _ _ us hl => match us, hl with | [_], _ => rfl
    F34 := zat (st := zaR) (ps := ["_law_part_here", "_law_deep"]) X G a34 l34 c34 p34 fun _ _ _ _ _ _ us hl => match us, hl with | [_, _], _ => rfl
    F35 := zat (st := zP) (ps := ["_law_told"]) X G a35 l35 c35 p35 fun _ _ _ _ _ _ us hl => match us, hl with | [_], _ => rfl
    F36 := zat (st := zgG) (ps := ["_law_index", "_law_i", "_law_j", "_law_n"]) X G a36 l36 c36 p36 fun _ _ _ _ _ _ us hl => match us, hl with | [_, _, _, _], _ => rfl
    F37 := zat (st := z3) (ps := ["_law_row", "_law_i", "_law_j", "_law_n"]) X G a37 l37 c37 p37 fun _ _ _ _ _ _ us hl => match us, hl with | [_, _, _, _], _ => rfl
    F38 := zat (st := zaA) (ps := ["_law_cells", "_law_mark", "_law_row", "_law_wide"]) X G a38 l38 c38 p38 fun _ _ _ _ _ _ us hl => match us, hl with | [_, _, _, _], _ => rfl
    F39 := zat (st := zbM) (ps := ["_law_cells", "_law_mark", "_law_row", "_law_wide"]) X G a39 l39 c39 p39 fun _ _ _ _ _ _ us hl => match us, hl with | [_, _, _, _], _ => rfl
    F40 := zat (st := zbT) (ps := ["_law_count_here", "_law_w", "_law_n"]) X G a40 l40 c40 p40 fun _ _ _ _ _ _ us hl => match us, hl with | [_, _, _], _ => rfl
    F41 := zat (st := zZ) (ps := ["_law_told", "_law_w", "_law_n", "_law_most"]) X G a41 l41 c41 p41 fun _ _ _ _ _ _ us hl => match us, hl with | [_, _, _, _], _ => rfl
    F42 := zat (st := zX) (ps := ["_law_rows"]) X G a42 l42 c42 p42 fun _ _ _ _ _ _ us hl => match us, hl with | [_], _ => rfl
    F43 := zat (st := zbd) (ps := ["_law_w", "_law_n", "_law_x", "_law_y"]) X G a43 l43 c43 p43 fun _ _ _ _ _ _ us hl => match us, hl with | [_, _, _, _], _ => rfl
    F44 := zat (st := zcb) (ps := ["_law_told", "_law_w", "_law_n", "_law_x", "_law_y"]) X G a44 l44 c44 p44 fun _ _ _ _ _ _ us hl => match us, hl with | [_, _, _, _, _], _ => rfl
    F45 := zat (st := zb7) (ps := ["_law_cells", "_law_letter_here", "_law_many", "_law_w"]) X G a45 l45 c45 p45 fun _ _ _ _ _ _ us hl => match us, hl with | [_, _, _, _], _ => rfl
    F46 := zat (st := zbe) (ps := ["_law_cells"]) X G a46 l46 c46 p46 fun _ _ _ _ _ _ us hl => match us, hl with | [_], _ => rfl
    F47 := zat (st := zM) (ps := ["_law_deed", "_law_w", "_law_n", "_law_x", "_law_y"]) X G a47 l47 c47 p47 fun _ _ _ _ _ _ us hl => match us, hl with | [_, _, _, _, _], _ => rfl
    F48 := zat (st := zdk) (ps := ["_law_script"]) X G a48 l48 c48 p48 fun _ _ _ _ _ _ us hl => match us, hl with | [_], _ => rfl
    z_abs := PySem.W.mg_none_of X G z_abs
    z_all := PySem.W.mg_none_of X G z_all
    z_bool := PySem.W.mg_none_of X G z_bool
    z_enumerate := PySem.W.mg_none_of X G z_enumerate
    z_int := PySem.W.mg_none_of X G z_int
    z_isinstance := PySem.W.mg_none_of X G z_isinstance
    z_len := PySem.W.mg_none_of X G z_len
    z_min := PySem.W.mg_none_of X G z_min
    z_range := PySem.W.mg_none_of X G z_range
    z_str := PySem.W.mg_none_of X G z_str
    z_tuple := PySem.W.mg_none_of X G z_tuple
    k_bool := ⟨k_bool_n, k_bool_b, k_bool_i, k_bool_s, k_bool_p, k_bool_l⟩
    k_int := ⟨k_int_n, k_int_b, k_int_i, k_int_s, k_int_p, k_int_l⟩
    k_str := ⟨k_str_n, k_str_b, k_str_i, k_str_s, k_str_p, k_str_l⟩
    k_tuple := ⟨k_tuple_n, k_tuple_b, k_tuple_i, k_tuple_s, k_tuple_p, k_tuple_l⟩
    c_EACH_WORD := ⟨g_EACH_WORD_y0, PySem.W.mg_of X G g_EACH_WORD_a, fun B φ H => zbp (xs := [.int 0, .int 1, .int 0]) g_EACH_WORD_l0 (Nat.le_of_ble_eq_true rfl) (.cons ⟨_, rfl⟩ (.cons ⟨_, rfl⟩ (.cons ⟨_, rfl⟩ .nil))) (zp (by simp only [RepV]) (zp (by simp only [RepV]) (zp (by simp only [RepV]) za7)))⟩
    c_LONE := ⟨g_LONE_y0, PySem.W.mg_of X G g_LONE_a, fun B φ H => zbp (xs := [.str "turned", .str "bare"]) g_LONE_l0 (Nat.le_of_ble_eq_true rfl) (.cons ⟨_, rfl⟩ (.cons ⟨_, rfl⟩ .nil)) (zp (by simp only [RepV]) (zp (by simp only [RepV]) za7))⟩
    c_MARKS := ⟨g_MARKS_y0, PySem.W.mg_of X G g_MARKS_a, fun B φ H => zbp (xs := [.ref g_MARKS_y1, .ref g_MARKS_y3, .ref g_MARKS_y5, .ref g_MARKS_y7]) g_MARKS_l0 (Nat.le_of_ble_eq_true rfl) (.cons rfl (.cons rfl (.cons rfl (.cons rfl .nil)))) (zp (zbp (xs := [.str "m", .ref g_MARKS_y2]) g_MARKS_l1 (Nat.le_of_ble_eq_true rfl) (.cons ⟨_, rfl⟩ (.cons rfl .nil)) (zp (by simp only [RepV]) (zp (zbp (xs := [.int 0, .int 0, .int 0, .int 0]) g_MARKS_l2 (Nat.le_of_ble_eq_true rfl) (.cons ⟨_, rfl⟩ (.cons ⟨_, rfl⟩ (.cons ⟨_, rfl⟩ (.cons ⟨_, rfl⟩ .nil)))) (zp (by simp only [RepV]) (zp (by simp only [RepV]) (zp (by simp only [RepV]) (zp (by simp only [RepV]) za7))))) za7))) (zp (zbp (xs := [.str "m", .ref g_MARKS_y4]) g_MARKS_l3 (Nat.le_of_ble_eq_true rfl) (.cons ⟨_, rfl⟩ (.cons rfl .nil)) (zp (by simp only [RepV]) (zp (zbp (xs := [.int 1, .int 0, .int 0, .int 0]) g_MARKS_l4 (Nat.le_of_ble_eq_true rfl) (.cons ⟨_, rfl⟩ (.cons ⟨_, rfl⟩ (.cons ⟨_, rfl⟩ (.cons ⟨_, rfl⟩ .nil)))) (zp (by simp only [RepV]) (zp (by simp only [RepV]) (zp (by simp only [RepV]) (zp (by simp only [RepV]) za7))))) za7))) (zp (zbp (xs := [.str "m", .ref g_MARKS_y6]) g_MARKS_l5 (Nat.le_of_ble_eq_true rfl) (.cons ⟨_, rfl⟩ (.cons rfl .nil)) (zp (by simp only [RepV]) (zp (zbp (xs := [.int 2, .int 0, .int 0, .int 0]) g_MARKS_l6 (Nat.le_of_ble_eq_true rfl) (.cons ⟨_, rfl⟩ (.cons ⟨_, rfl⟩ (.cons ⟨_, rfl⟩ (.cons ⟨_, rfl⟩ .nil)))) (zp (by simp only [RepV]) (zp (by simp only [RepV]) (zp (by simp only [RepV]) (zp (by simp only [RepV]) za7))))) za7))) (zp (zbp (xs := [.str "m", .ref g_MARKS_y8]) g_MARKS_l7 (Nat.le_of_ble_eq_true rfl) (.cons ⟨_, rfl⟩ (.cons rfl .nil)) (zp (by simp only [RepV]) (zp (zbp (xs := [.int 3, .int 0, .int 0, .int 0]) g_MARKS_l8 (Nat.le_of_ble_eq_true rfl) (.cons ⟨_, rfl⟩ (.cons ⟨_, rfl⟩ (.cons ⟨_, rfl⟩ (.cons ⟨_, rfl⟩ .nil)))) (zp (by simp only [RepV]) (zp (by simp only [RepV]) (zp (by simp only [RepV]) (zp (by simp only [RepV]) za7))))) za7))) za7))))⟩
    c_NIL := ⟨g_NIL_y0, PySem.W.mg_of X G g_NIL_a, fun B φ H => zbp (xs := [.str "z", .ref g_NIL_y1]) g_NIL_l0 (Nat.le_of_ble_eq_true rfl) (.cons ⟨_, rfl⟩ (.cons rfl .nil)) (zp (by simp only [RepV]) (zp (zbp (xs := [.int 0, .int 0, .int 0, .int 0]) g_NIL_l1 (Nat.le_of_ble_eq_true rfl) (.cons ⟨_, rfl⟩ (.cons ⟨_, rfl⟩ (.cons ⟨_, rfl⟩ (.cons ⟨_, rfl⟩ .nil)))) (zp (by simp only [RepV]) (zp (by simp only [RepV]) (zp (by simp only [RepV]) (zp (by simp only [RepV]) za7))))) za7))⟩
    c_PAIRED := ⟨g_PAIRED_y0, PySem.W.mg_of X G g_PAIRED_a, fun B φ H => zbp (xs := [.str "sum", .str "difference", .str "compare", .str "both", .str "any", .str "odd", .str "product", .str "signed product", .str "quotient", .str "signed quotient"]) g_PAIRED_l0 (Nat.le_of_ble_eq_true rfl) (.cons ⟨_, rfl⟩ (.cons ⟨_, rfl⟩ (.cons ⟨_, rfl⟩ (.cons ⟨_, rfl⟩ (.cons ⟨_, rfl⟩ (.cons ⟨_, rfl⟩ (.cons ⟨_, rfl⟩ (.cons ⟨_, rfl⟩ (.cons ⟨_, rfl⟩ (.cons ⟨_, rfl⟩ .nil)))))))))) (zp (by simp only [RepV]) (zp (by simp only [RepV]) (zp (by simp only [RepV]) (zp (by simp only [RepV]) (zp (by simp only [RepV]) (zp (by simp only [RepV]) (zp (by simp only [RepV]) (zp (by simp only [RepV]) (zp (by simp only [RepV]) (zp (by simp only [RepV]) za7))))))))))⟩
    c_PAIRWISE := ⟨g_PAIRWISE_y0, PySem.W.mg_of X G g_PAIRWISE_a, fun B φ H => zbp (xs := [.str "both", .str "any", .str "odd"]) g_PAIRWISE_l0 (Nat.le_of_ble_eq_true rfl) (.cons ⟨_, rfl⟩ (.cons ⟨_, rfl⟩ (.cons ⟨_, rfl⟩ .nil))) (zp (by simp only [RepV]) (zp (by simp only [RepV]) (zp (by simp only [RepV]) za7)))⟩
    c_SEEN := ⟨g_SEEN_y0, PySem.W.mg_of X G g_SEEN_a, fun B φ H => zbp (xs := [.str "s", .ref g_SEEN_y1]) g_SEEN_l0 (Nat.le_of_ble_eq_true rfl) (.cons ⟨_, rfl⟩ (.cons rfl .nil)) (zp (by simp only [RepV]) (zp (zbp (xs := [.int 0, .int 0, .int 0, .int 0]) g_SEEN_l1 (Nat.le_of_ble_eq_true rfl) (.cons ⟨_, rfl⟩ (.cons ⟨_, rfl⟩ (.cons ⟨_, rfl⟩ (.cons ⟨_, rfl⟩ .nil)))) (zp (by simp only [RepV]) (zp (by simp only [RepV]) (zp (by simp only [RepV]) (zp (by simp only [RepV]) za7))))) za7))⟩
    c_SHIFTS := ⟨g_SHIFTS_y0, PySem.W.mg_of X G g_SHIFTS_a, fun B φ H => zbp (xs := [.str "left", .str "right", .str "down", .str "roll"]) g_SHIFTS_l0 (Nat.le_of_ble_eq_true rfl) (.cons ⟨_, rfl⟩ (.cons ⟨_, rfl⟩ (.cons ⟨_, rfl⟩ (.cons ⟨_, rfl⟩ .nil)))) (zp (by simp only [RepV]) (zp (by simp only [RepV]) (zp (by simp only [RepV]) (zp (by simp only [RepV]) za7))))⟩
    c_SPARE := ⟨g_SPARE_y0, PySem.W.mg_of X G g_SPARE_a, fun B φ H => zbp (xs := [.str "t", .ref g_SPARE_y1]) g_SPARE_l0 (Nat.le_of_ble_eq_true rfl) (.cons ⟨_, rfl⟩ (.cons rfl .nil)) (zp (by simp only [RepV]) (zp (zbp (xs := [.int 0, .int 0, .int 0, .int 0]) g_SPARE_l1 (Nat.le_of_ble_eq_true rfl) (.cons ⟨_, rfl⟩ (.cons ⟨_, rfl⟩ (.cons ⟨_, rfl⟩ (.cons ⟨_, rfl⟩ .nil)))) (zp (by simp only [RepV]) (zp (by simp only [RepV]) (zp (by simp only [RepV]) (zp (by simp only [RepV]) za7))))) za7))⟩
  }
  exact ⟨_, fun s v => .of_eq rfl, fun base XB _ => zB Z 12 48 _ rfl⟩
theorem walk {l : PySem.W.OpenLaw} {q : Program} {loose : List Str} {XP : (Str -> Option Value) -> Heap -> Prop} {YP : World -> Heap -> Prop} {d : DefRec} {K : Params -> PySem.W.Frag} (hn : l.most = some 63) (hdf : d.params.defaults = [])
    (hY : ∀ (w : World) (h : Heap), YP w h -> (K w.params).In h)
    (F : ∀ (w : World) (mg : Str -> Option Value) (fa : Addr) (h : Heap), (K w.params).In h -> h.Ns mainGlobals mg -> mg d.name = some (.ref fa) ->
      ∃ fd : FuncData, (∀ (s : Shared) (u : Value), BindsTo s fd ⟨[u], []⟩ [("_law_script", u)]) /\ ∀ base : Heap, (K w.params).In base -> base.Ns mainGlobals mg -> FnOk l.prog w (K w.params) mg base (CX1 l.prog w) 12 fa fd ["_law_script"] (spI (K w.params) clx (callT T 12) zkO)) :
    PySem.W.WalkO q loose XP YP l.row.toRowW d [] (fun f vs => PySem.call f vs) :=
  L2.walk_of (n := 63) (k := 12) (x := "_law_script") (CX := fun w => CX1 l.prog w) (sp := fun w => spI (K w.params) clx (callT T 12) zkO) hn (by decide) hdf ⟨rfl, by decide, by decide⟩ hY F (fun w H a ns hl _ hS => zlV znl hl hS) fun _ _ _ _ _ z => zpf z
end WK
open PySem PySem.W PyProof.Rows
namespace PySem.W.Fast
def tw10623354626550992717:=0
def tw13196024930159060581:=0
def tw14227612971112045472:=0
def tw7435955112434645255:=0
def tw9417780819235295842:=0
def tw14333906983979965562:=0
def tw12908461755403485503:=0
def tw10789851259102756722:=0
def tw3404617453507488071:=0
def tw7130594587683841963:=0
def tw15060482193009564160:=0
def tw16261316499921251534:=0
def tw1061538989313792101:=0
def tw1955970430999011375:=0
def tw17039377154904327212:=0
def tw14169897782266077281:=0
def tw5035821392900991042:=0
def tw4338706559667385908:=0
def tw6419647894087879457:=0
def tw12974258251646968731:=0
def tw12663646442349391127:=0
def tw18427431147468109673:=0
def tw15633604506587419212:=0
def tw5242671515945427147:=0
def tw3535887602213801707:=0
def tw1277751956326877741:=0
def tw9825220432944824325:=0
def tw17646323472510163834:=0
def tw400056540538583019:=0
def tw7904457620098422045:=0
def tw11335666614209192839:=0
def tw17170539372283635778:=0
def tw16468364043620932183:=0
def tw16451693357685282542:=0
def tw8561531618653318965:=0
def tw13840606868364459:=0
def tw15709987726503116048:=0
def tw2870749435564658341:=0
def tw15085874785877983663:=0
def tw6323994482726185531:=0
def tw17940021964130967750:=0
def tw16558688287354451135:=0
def tw8146179634043016097:=0
def tw6029153589743489164:=0
def tw17613467239050645125:=0
def tw1078698092929469257:=0
def tw7807013553081582971:=0
def tw2324997969361956952:=0
def tw5897987286936503364:=0
def tw9290386870401636979:=0
def tw4987141923844804092:=0
def tw9348699650816864491:=0
def tw14863082021051583228:=0
def tw14094756581901632267:=0
def tw10047278386265508405:=0
def tw17400100616597252207:=0
def tw12708326932514593023:=0
def tw1622173058019767209:=0
def tw11332382890727292400:=0
def tw6764963658140206389:=0
def tw5388892441284845026:=0
def tw8385408328857943682:=0
def tw525986472693678994:=0
def tw10749011564749145048:=0
def tw194198648343352612:=0
def tw192711203139192617:=0
def tw8938175042567140211:=0
def tw2217735439441370326:=0
def tw12761111917983841875:=0
def tw17462029885479308178:=0
def tw13154206536664123047:=0
def tw17344550395247504711:=0
def tw11256597677594667490:=0
def tw8566144077898119340:=0
def tw123465485721117908:=0
def tw7043246886795854807:=0
def tw5448062347588460787:=0
def tw1021752278395283367:=0
def tw3220836290905938882:=0
def tw9268720405319477202:=0
def tw12577095158416908081:=0
def tw14686164697742117182:=0
def tw8904134311362085880:=0
def tw7684847196952183255:=0
def tw1564054205702788642:=0
def tw7132494458161182573:=0
def tw8685299500835894508:=0
def tw7065482072647233993:=0
def tw10494469110670123424:=0
def tw1749358192251475484:=0
def tw16213819691725455756:=0
def tw6788331971157918058:=0
def tw3730167707076053649:=0
def tw16654094681298875509:=0
def tw13696528277389772621:=0
def tw9470068978583684748:=0
def tw11612552087836111454:=0
def tw6826305899620862973:=0
def tw6027070774724415040:=0
def tw11212687377905742101:=0
def tw9680251379197638370:=0
def tw6939079278894021977:=0
def tw2137740464442988801:=0
def tw1495527837456296014:=0
def tw12394516972938436341:=0
def tw16650348720511220470:=0
def tw8099517448983669942:=0
def tw17981903516209612377:=0
def tw17313220965639634530:=0
def tw2089125984311940767:=0
def tw2429916417177159929:=0
def tw10739854609310629308:=0
def tw17746988978617124228:=0
def tw2060770518170080340:=0
def tw5557869350595436066:=0
def tw14460061427438478728:=0
def tw1186043281946044226:=0
def tw8278865394405725969:=0
def tw14353221949202737225:=0
def tw16890400623200479200:=0
def tw12441615276524298257:=0
def tw18359763943787245249:=0
def tw15528398491338032754:=0
def tw17837743238748003567:=0
def tw4457015121162387447:=0
def tw5973896634290128745:=0
def tw18190463519758880272:=0
def tw2857449418744165628:=0
def tw13081984676147771670:=0
def tw8132164961277043447:=0
def tw913737992806122000:=0
def tw6404220120467888195:=0
def tw4477194492931434652:=0
def tw4419908710065602448:=0
def tw5600876427749380482:=0
def tw6539599197165049159:=0
def tw14597221025860561446:=0
def tw5658690023845796796:=0
def tw2381608526943394607:=0
def tw17849744231935971497:=0
def tw4857358669987136328:=0
def tw12606283192807941217:=0
def tw16283362870783232546:=0
def tw17485700679680756202:=0
def tw6303028853925845018:=0
def tw14382907494539840885:=0
def tw1248383569612604835:=0
def tw8021349247850915502:=0
def tw15957996351022512891:=0
def tw11554613520556278985:=0
def tw10736616960590579253:=0
def tw11511391774173486959:=0
def tw12003828750323965922:=0
def tw3567878024616383544:=0
def tw8555334016128888187:=0
def tw8734838306528695076:=0
def tw17771397143920914818:=0
def tw17732766097943027946:=0
def tw6249067998934320330:=0
def tw3696129492247994796:=0
def tw2764222273439856410:=0
def tw16015609241815638730:=0
def tw17341061118247378582:=0
def tw14025276716574234001:=0
def tw3069607165390441322:=0
def tw14905532214997190835:=0
def tw12541519536188692532:=0
def tw6760306196342621203:=0
def tw15274504252089868472:=0
def tw2274908901817285659:=0
def tw5238690646983037684:=0
def tw10637434719802351797:=0
def tw4694456204955786439:=0
def tw770102403334570131:=0
def tw8108299825585275235:=0
def tw18382616169357627098:=0
def tw4780783451717596818:=0
def tw13128868184618633131:=0
def tw1104822210595573067:=0
def tw5686900557934446116:=0
def tw18148350879063914409:=0
def tw11420107203440727868:=0
def tw14070186584904159192:=0
def tw11251514032768905062:=0
def tw15420041016135955180:=0
def tw12432896221373822342:=0
def tw9422558343153251329:=0
def tw16524880921893690669:=0
def tw10837899211523584261:=0
def tw5289336420156805773:=0
def tw9795608419601262484:=0
def tw6045161374146388849:=0
def tw11447434299896010397:=0
def tw14145078097215833792:=0
def tw5557753239952685686:=0
def tw15489972771615308472:=0
def tw15639706553401208030:=0
def tw11368805420385701220:=0
def tw5053295456247146951:=0
def tw8798574632555226725:=0
def tw5662306223659125789:=0
def tw6355233803888612862:=0
def tw9120136129745934130:=0
def tw9902165548652999489:=0
def tw312130476277174857:=0
def tw863916634471389523:=0
def tw12177888680146810170:=0
def tw16580458377071633421:=0
def tw4650049724906824362:=0
def tw568957724916684797:=0
def tw15006704997042562016:=0
def tw5406243963035223325:=0
def tw7311053548090498237:=0
def tw5102345423213795323:=0
def tw7875256057278462691:=0
def tw17503012407181370000:=0
def tw14871587711185224791:=0
def tw5976265472062331487:=0
def tw11224550319838471075:=0
def tw584411010646372029:=0
def tw17062669280563072197:=0
def tw17277050151393139098:=0
def tw760232092858812027:=0
def tw3501151735913826147:=0
def tw10582496353974465590:=0
def tw879031642777480311:=0
def tw8952002420238088462:=0
def tw12334659411016426764:=0
def tw13299942137591576980:=0
def tw16839299230709326206:=0
def tw3339314621230357270:=0
def tw4835077863329652118:=0
def tw6015826889455662923:=0
def tw14828515442637718961:=0
def tw5616392689483043101:=0
def tw14810412930664561506:=0
def tw2983635693915764768:=0
def tw14485104338366087620:=0
def tw2529161085528550616:=0
def tw17649004688365461744:=0
def tw2314579879358723827:=0
def tw11975834652745414996:=0
def tw12566304602926192127:=0
def tw223622763069241980:=0
def tw2672504754482342100:=0
def tw10245807409192266618:=0
def tw761829052248237826:=0
def tw6961132341245744320:=0
def tw5263407114570134008:=0
def tw405353481994730227:=0
def tw4938706194109189703:=0
def tw17084067894660007895:=0
def tw15052219924688409083:=0
def tw14122506205287265213:=0
def tw13231448108061191467:=0
def tw12768763312925471998:=0
def tw3579062530637865956:=0
def tw10329276646735884440:=0
def tw5157509667671726290:=0
def tw8640684811969426547:=0
def tw10533170197867138691:=0
def tw10503291778624099861:=0
def tw919628610296254866:=0
def tw7636310829327964639:=0
def tw13125788274157299644:=0
def tw6317670616980313640:=0
def tw12901406555520625292:=0
def tw5935173441733192590:=0
def tw3276171626260994714:=0
def tw3155851670277843080:=0
def tw17034508917322699519:=0
def tw1172284322422232077:=0
def tw1753384714742151363:=0
def tw8909452148046551749:=0
def tw5572593273334621114:=0
def tw10901528985666916477:=0
def tw10877621278050818313:=0
def tw8731631849500147926:=0
def tw16137240370350986039:=0
def tw14240035351273581174:=0
def tw8399129987899807711:=0
def tw7493453547637409650:=0
def tw12134184552539933546:=0
def tw13135701111304969401:=0
def tw14704587581940305559:=0
def tw2939313141488532595:=0
def tw11270460361336535597:=0
def tw4040679366839570801:=0
def tw12588285552734275981:=0
def tw2350765087642170027:=0
def tw10304583437232009021:=0
def tw4948218336572923297:=0
def tw7828320328565994360:=0
def tw10076532505956781104:=0
def tw15333899473495957431:=0
def tw1875500162696054035:=0
def tw14032203656341093066:=0
def tw2600353896456177347:=0
def tw10697766315663033366:=0
def tw6510142290431738464:=0
def tw6916157098903907264:=0
def tw18023281952379545705:=0
def tw8369023355493291732:=0
def tw15977979796844829113:=0
def tw836757337343478748:=0
def tw11058053748635726105:=0
def tw10166737524135721145:=0
def tw1203370964919054822:=0
def tw202523344636017885:=0
def tw2492247043185829720:=0
def tw11431992213070152486:=0
def tw5366319370827481403:=0
def tw12436643108612574217:=0
def tw4798629410149895182:=0
def tw17131546292151809171:=0
def tw14991153106416308605:=0
def tw11770983696635936451:=0
def tw14663960924390621095:=0
def tw16162112914170128672:=0
def tw2145271617546662847:=0
def tw8533170732693066853:=0
def tw6530325608895525508:=0
def tw8520728167745983061:=0
def tw10993294305850818734:=0
def tw5174450634292872882:=0
def tw4282602923506765260:=0
def tw8390900776996786320:=0
def tw8329331303562759414:=0
def tw2079584507147140357:=0
def tw14046052189219946479:=0
def tw4786196824804374955:=0
def tw12461632476579519419:=0
def tw17126460139147118960:=0
def tw8232923558179673337:=0
def tw16790128110983925563:=0
def tw10244233469938979937:=0
def tw6056788135900176513:=0
def tw17848962867736533868:=0
def tw6179583984977335975:=0
def tw3616978148221868703:=0
def tw16505326299510971236:=0
def tw15603345397927739042:=0
def tw294646367309661626:=0
def tw15200572402536158207:=0
def tw1710099908330273187:=0
def tw10673986596798690016:=0
def tw14738812568000538132:=0
def tw11955719111887697733:=0
def tw3538581891708648959:=0
def tw15395291790556706872:=0
def tw328191969464351138:=0
def tw8205193416962546532:=0
def tw18359592527611526194:=0
def tw7800958949200609543:=0
def tw15343734439461371672:=0
def tw8041819553883710488:=0
def tw11195651224211698068:=0
def tw1279450237594279365:=0
def tw519323267001421630:=0
def tw416020178472938459:=0
def tw5288516590088202438:=0
def tw9290539217512070374:=0
def tw5624711294217984761:=0
def tw315848056708966005:=0
def tw6182709399001999232:=0
def tw1365589097136026632:=0
def tw17343031033124059264:=0
def tw18228961466408952689:=0
def tw6993119661856613034:=0
def tw17716774054819944754:=0
def tw7286976307822613466:=0
def tw15257024164284754510:=0
def tw10664780249619796845:=0
def tw6701835630108643036:=0
def tw6631050381501706664:=0
def tw2475211288877791464:=0
def tw6455559489754415942:=0
def tw12458275755904515334:=0
def tw11455083626517746794:=0
def tw14166945269932810382:=0
def tw10821480991516323599:=0
def tw17732098234815987102:=0
def tw10308248042097894256:=0
def tw9589864610082100097:=0
def tw3949627209397833750:=0
def tw14139111212224146426:=0
def tw4687288459041867908:=0
def tw6963196997633220885:=0
def tw10910164616597306007:=0
def tw7568911884834512963:=0
def tw8920587757493427831:=0
def tw13992455749176736090:=0
def tw17311376632987842688:=0
def tw17039596098267427243:=0
def tw8680891493403734813:=0
def tw12240449430714677777:=0
def tw9889744539638687496:=0
def tw10502482859571420571:=0
def tw10983112225559291115:=0
def tw6790856134114794396:=0
def tw13563354198313581258:=0
def tw2185330540267743414:=0
def tw2742840319062242757:=0
def tw839766440678069354:=0
def tw12349590758453889132:=0
def tw8172936656252900383:=0
def tw6895317031885346023:=0
def tw194675352307136603:=0
def tw15036207823001865221:=0
def tw10298376634860395535:=0
def tw584938522795112775:=0
def tw12552674396820531223:=0
def tw9864690951171914571:=0
def tw3910039112743501555:=0
def tw12463989168386544940:=0
def tw4284317212451374725:=0
def tw6041970944602203946:=0
def tw10917809098865017829:=0
def tw12565719698276351849:=0
def tw11184359220067376124:=0
def tw5688699325713545109:=0
def tw11265492551822477793:=0
def tw15249129734616735713:=0
def tw5598474127540656128:=0
def tw17302574834995139205:=0
end PySem.W.Fast
set_option maxRecDepth 100000 in
set_option maxHeartbeats 0 in
theorem PySem.Challenge.cw_widewords_k19_whole_there_and_back_holds : PySem.Challenge.rw_widewords_k19_whole_there_and_back.Holds := by
  w_on; o_law; k_head; (case hw => w_witness2)
  k_fill
  refine WK.walk (l := PySem.Challenge.rw_widewords_k19_whole_there_and_back) rfl rfl (fun w h Y => PySem.W.kIn_of Y) ?F
  case F =>
    intro w mg fa h KX G hmg
    refine' WK.all_mk KX G hmg ?a0 ?l0 ?c0 ?p0 ?d0 ?a1 ?l1 ?c1 ?p1 ?a2 ?l2 ?c2 ?p2 ?a3 ?l3 ?c3 ?p3 ?a4 ?l4 ?c4 ?p4 ?d4 ?a5 ?l5 ?c5 ?p5 ?d5 ?a6 ?l6 ?c6 ?p6 ?a7 ?l7 ?c7 ?p7 ?a8 ?l8 ?c8 ?p8 ?a9 ?l9 ?c9 ?p9 ?a10 ?l10 ?c10 ?p10 ?a11 ?l11 ?c11 ?p11 ?a12 ?l12 ?c12 ?p12 ?a13 ?l13 ?c13 ?p13 ?a14 ?l14 ?c14 ?p14 ?a15 ?l15 ?c15 ?p15 ?a16 ?l16 ?c16 ?p16 ?a17 ?l17 ?c17 ?p17 ?a18 ?l18 ?c18 ?p18 ?a19 ?l19 ?c19 ?p19 ?a20 ?l20 ?c20 ?p20 ?a21 ?l21 ?c21 ?p21 ?a22 ?l22 ?c22 ?p22 ?a23 ?l23 ?c23 ?p23 ?a24 ?l24 ?c24 ?p24 ?a25 ?l25 ?c25 ?p25 ?a26 ?l26 ?c26 ?p26 ?a27 ?l27 ?c27 ?p27 ?a28 ?l28 ?c28 ?p28 ?a29 ?l29 ?c29 ?p29 ?a30 ?l30 ?c30 ?p30 ?a31 ?l31 ?c31 ?p31 ?a32 ?l32 ?c32 ?p32 ?a33 ?l33 ?c33 ?p33 ?a34 ?l34 ?c34 ?p34 ?a35 ?l35 ?c35 ?p35 ?a36 ?l36 ?c36 ?p36 ?a37 ?l37 ?c37 ?p37 ?a38 ?l38 ?c38 ?p38 ?a39 ?l39 ?c39 ?p39 ?a40 ?l40 ?c40 ?p40 ?a41 ?l41 ?c41 ?p41 ?a42 ?l42 ?c42 ?p42 ?a43 ?l43 ?c43 ?p43 ?a44 ?l44 ?c44 ?p44 ?a45 ?l45 ?c45 ?p45 ?a46 ?l46 ?c46 ?p46 ?a47 ?l47 ?c47 ?p47 ?a48 ?l48 ?c48 ?p48 ?z_abs ?z_all ?z_bool ?z_enumerate ?z_int ?z_isinstance ?z_len ?z_min ?z_range ?z_str ?z_tuple ?k_bool_n ?k_bool_b ?k_bool_i ?k_bool_s ?k_bool_p ?k_bool_l ?k_int_n ?k_int_b ?k_int_i ?k_int_s ?k_int_p ?k_int_l ?k_str_n ?k_str_b ?k_str_i ?k_str_s ?k_str_p ?k_str_l ?k_tuple_n ?k_tuple_b ?k_tuple_i ?k_tuple_s ?k_tuple_p ?k_tuple_l ?g_EACH_WORD_a ?g_EACH_WORD_l0 ?g_LONE_a ?g_LONE_l0 ?g_MARKS_a ?g_MARKS_l0 ?g_MARKS_l1 ?g_MARKS_l2 ?g_MARKS_l3 ?g_MARKS_l4 ?g_MARKS_l5 ?g_MARKS_l6 ?g_MARKS_l7 ?g_MARKS_l8 ?g_NIL_a ?g_NIL_l0 ?g_NIL_l1 ?g_PAIRED_a ?g_PAIRED_l0 ?g_PAIRWISE_a ?g_PAIRWISE_l0 ?g_SEEN_a ?g_SEEN_l0 ?g_SEEN_l1 ?g_SHIFTS_a ?g_SHIFTS_l0 ?g_SPARE_a ?g_SPARE_l0 ?g_SPARE_l1
    (case a0 => k_is); (case l0 => k_is); (case c0 => k_is); (case p0 => k_is); (case d0 => k_is); (case a1 => k_is); (case l1 => k_is); (case c1 => k_is)
    (case p1 => k_is); (case a2 => k_is); (case l2 => k_is); (case c2 => k_is); (case p2 => k_is); (case a3 => k_is); (case l3 => k_is); (case c3 => k_is)
    (case p3 => k_is); (case a4 => k_is); (case l4 => k_is); (case c4 => k_is); (case p4 => k_is); (case d4 => k_is); (case a5 => k_is); (case l5 => k_is)
    (case c5 => k_is); (case p5 => k_is); (case d5 => k_is); (case a6 => k_is); (case l6 => k_is); (case c6 => k_is); (case p6 => k_is); (case a7 => k_is)
    (case l7 => k_is); (case c7 => k_is); (case p7 => k_is); (case a8 => k_is); (case l8 => k_is); (case c8 => k_is); (case p8 => k_is); (case a9 => k_is)
    (case l9 => k_is); (case c9 => k_is); (case p9 => k_is); (case a10 => k_is); (case l10 => k_is); (case c10 => k_is); (case p10 => k_is); (case a11 => k_is)
    (case l11 => k_is); (case c11 => k_is); (case p11 => k_is); (case a12 => k_is); (case l12 => k_is); (case c12 => k_is); (case p12 => k_is); (case a13 => k_is)
    (case l13 => k_is); (case c13 => k_is); (case p13 => k_is); (case a14 => k_is); (case l14 => k_is); (case c14 => k_is); (case p14 => k_is); (case a15 => k_is)
    (case l15 => k_is); (case c15 => k_is); (case p15 => k_is); (case a16 => k_is); (case l16 => k_is); (case c16 => k_is); (case p16 => k_is); (case a17 => k_is)
    (case l17 => k_is); (case c17 => k_is); (case p17 => k_is); (case a18 => k_is); (case l18 => k_is); (case c18 => k_is); (case p18 => k_is); (case a19 => k_is)
    (case l19 => k_is); (case c19 => k_is); (case p19 => k_is); (case a20 => k_is); (case l20 => k_is); (case c20 => k_is); (case p20 => k_is); (case a21 => k_is)
    (case l21 => k_is); (case c21 => k_is); (case p21 => k_is); (case a22 => k_is); (case l22 => k_is); (case c22 => k_is); (case p22 => k_is); (case a23 => k_is)
    (case l23 => k_is); (case c23 => k_is); (case p23 => k_is); (case a24 => k_is); (case l24 => k_is); (case c24 => k_is); (case p24 => k_is); (case a25 => k_is)
    (case l25 => k_is); (case c25 => k_is); (case p25 => k_is); (case a26 => k_is); (case l26 => k_is); (case c26 => k_is); (case p26 => k_is); (case a27 => k_is)
    (case l27 => k_is); (case c27 => k_is); (case p27 => k_is); (case a28 => k_is); (case l28 => k_is); (case c28 => k_is); (case p28 => k_is); (case a29 => k_is)
    (case l29 => k_is); (case c29 => k_is); (case p29 => k_is); (case a30 => k_is); (case l30 => k_is); (case c30 => k_is); (case p30 => k_is); (case a31 => k_is)
    (case l31 => k_is); (case c31 => k_is); (case p31 => k_is); (case a32 => k_is); (case l32 => k_is); (case c32 => k_is); (case p32 => k_is); (case a33 => k_is)
    (case l33 => k_is); (case c33 => k_is); (case p33 => k_is); (case a34 => k_is); (case l34 => k_is); (case c34 => k_is); (case p34 => k_is); (case a35 => k_is)
    (case l35 => k_is); (case c35 => k_is); (case p35 => k_is); (case a36 => k_is); (case l36 => k_is); (case c36 => k_is); (case p36 => k_is); (case a37 => k_is)
    (case l37 => k_is); (case c37 => k_is); (case p37 => k_is); (case a38 => k_is); (case l38 => k_is); (case c38 => k_is); (case p38 => k_is); (case a39 => k_is)
    (case l39 => k_is); (case c39 => k_is); (case p39 => k_is); (case a40 => k_is); (case l40 => k_is); (case c40 => k_is); (case p40 => k_is); (case a41 => k_is)
    (case l41 => k_is); (case c41 => k_is); (case p41 => k_is); (case a42 => k_is); (case l42 => k_is); (case c42 => k_is); (case p42 => k_is); (case a43 => k_is)
    (case l43 => k_is); (case c43 => k_is); (case p43 => k_is); (case a44 => k_is); (case l44 => k_is); (case c44 => k_is); (case p44 => k_is); (case a45 => k_is)
    (case l45 => k_is); (case c45 => k_is); (case p45 => k_is); (case a46 => k_is); (case l46 => k_is); (case c46 => k_is); (case p46 => k_is); (case a47 => k_is)
    (case l47 => k_is); (case c47 => k_is); (case p47 => k_is); (case a48 => k_is); (case l48 => k_is); (case c48 => k_is); (case p48 => k_is); (case z_abs => k_is)
    (case z_all => k_is); (case z_bool => k_is); (case z_enumerate => k_is); (case z_int => k_is); (case z_isinstance => k_is); (case z_len => k_is); (case z_min => k_is); (case z_range => k_is)
    (case z_str => k_is); (case z_tuple => k_is); (case k_bool_n => kit_is); (case k_bool_b => kit_is); (case k_bool_i => kit_is); (case k_bool_s => kit_is); (case k_bool_p => kit_is); (case k_bool_l => kit_is)
    (case k_int_n => kit_is); (case k_int_b => kit_is); (case k_int_i => kit_is); (case k_int_s => kit_is); (case k_int_p => kit_is); (case k_int_l => kit_is); (case k_str_n => kit_is); (case k_str_b => kit_is)
    (case k_str_i => kit_is); (case k_str_s => kit_is); (case k_str_p => kit_is); (case k_str_l => kit_is); (case k_tuple_n => kit_is); (case k_tuple_b => kit_is); (case k_tuple_i => kit_is); (case k_tuple_s => kit_is)
    (case k_tuple_p => kit_is); (case k_tuple_l => kit_is); (case g_EACH_WORD_a => k_is); (case g_EACH_WORD_l0 => k_is); (case g_LONE_a => k_is); (case g_LONE_l0 => k_is); (case g_MARKS_a => k_is); (case g_MARKS_l0 => k_is)
    (case g_MARKS_l1 => k_is); (case g_MARKS_l2 => k_is); (case g_MARKS_l3 => k_is); (case g_MARKS_l4 => k_is); (case g_MARKS_l5 => k_is); (case g_MARKS_l6 => k_is); (case g_MARKS_l7 => k_is); (case g_MARKS_l8 => k_is)
    (case g_NIL_a => k_is); (case g_NIL_l0 => k_is); (case g_NIL_l1 => k_is); (case g_PAIRED_a => k_is); (case g_PAIRED_l0 => k_is); (case g_PAIRWISE_a => k_is); (case g_PAIRWISE_l0 => k_is); (case g_SEEN_a => k_is)
    (case g_SEEN_l0 => k_is); (case g_SEEN_l1 => k_is); (case g_SHIFTS_a => k_is); (case g_SHIFTS_l0 => k_is); (case g_SPARE_a => k_is); (case g_SPARE_l0 => k_is); (case g_SPARE_l1 => k_is)
