import PyProof.Rows.All
import Wide.All
import OpenK.AllK
import Wide.FinOn
import PyProof.EqAt
import PyProof.EqKinds
import PyProof.TupleCall
import PyProof.TupleKey
import PyProof.P3Eq
import PyProof.P3Statements
import KE.KSortTup
import PyProof.StrLoop
import PyProof.StrWalks
import PyProof.StrBlockI
import PyProof.StrCalls
import Lean
import PySem.Challenge.RW_kindturn_k10_whole_row_to_plain
set_option Elab.async false
set_option linter.all false
set_option maxRecDepth 100000
/-! keys of a dict that are tuples within tuples -/
namespace KN
open PySem
mutual
def kD : PyData → Bool
  | .int _ => true
  | .str s => PyData.strOk s
  | .tuple ds => kDs ds
  | _ => false
def kDs : List PyData → Bool
  | [] => true
  | d :: ds => kD d && kDs ds
end
mutual
def NH (h : Heap) : PyData → Value → Prop
  | .int i, v => ∃ t, v = .int i t
  | .str x, v => ∃ t, v = .str x t
  | .tuple ds, v => ∃ (a : Addr) (o : Obj) (its : Array Value) (n : Nat), v = .ref a ∧ h.get? a = some o ∧ o.cls = .type "tuple" ∧ o.data = .seq its n ∧ NHs h ds its.toList
  | _, _ => False
def NHs (h : Heap) : List PyData → List Value → Prop
  | [], vs => vs = []
  | d :: ds, vs => ∃ v r, vs = v :: r ∧ NH h d v ∧ NHs h ds r
end
mutual
def hashD (w : World) : PyData → Int
  | .int i => hashInt i
  | .str s => hashStr w s
  | .tuple ds => reduceHash (Builtin.Tuple.tupleHashOf (hashDs w ds))
  | _ => 0
def hashDs (w : World) : List PyData → List Int
  | [] => []
  | d :: ds => hashD w d :: hashDs w ds
end
mutual
def drawsD : PyData → Nat
  | .int _ => 1
  | .str _ => 1
  | .tuple ds => drawsDs ds + 1
  | _ => 0
def drawsDs : List PyData → Nat
  | [] => 0
  | d :: ds => drawsD d + drawsDs ds
end
mutual
theorem NH.inj {h : Heap} : ∀ (x y : PyData) (v : Value), NH h x v → NH h y v → x = y
  | .int i, .int j, v, ⟨t, e⟩, ⟨u, e'⟩ => by subst e; injection e' with e1 _; rw [e1]
  | .int i, .str _, v, ⟨t, e⟩, ⟨u, e'⟩ => by subst e; cases e'
  | .int i, .tuple _, v, ⟨t, e⟩, ⟨_, _, _, _, e', _⟩ => by subst e; cases e'
  | .str i, .int j, v, ⟨t, e⟩, ⟨u, e'⟩ => by subst e; cases e'
  | .str i, .str _, v, ⟨t, e⟩, ⟨u, e'⟩ => by subst e; injection e' with e1 _; rw [e1]
  | .str i, .tuple _, v, ⟨t, e⟩, ⟨_, _, _, _, e', _⟩ => by subst e; cases e'
  | .tuple _, .int j, v, ⟨_, _, _, _, e, _⟩, ⟨u, e'⟩ => by subst e; cases e'
  | .tuple _, .str _, v, ⟨_, _, _, _, e, _⟩, ⟨u, e'⟩ => by subst e; cases e'
  | .tuple xs, .tuple ys, v, ⟨a, o, its, n, e, ho, _, hd, r⟩, ⟨a', o', its', n', e', ho', _, hd', r'⟩ => by
    subst e
    injection e' with e1
    subst e1
    rw [ho] at ho'
    cases ho'
    rw [hd] at hd'
    injection hd' with e2 _
    subst e2
    rw [NHs.inj xs ys _ r r']
  | .none, _, _, h, _ => h.elim
  | .bool _, _, _, h, _ => h.elim
  | .list _, _, _, h, _ => h.elim
  | .dict _, _, _, h, _ => h.elim
  | .int _, .none, _, _, h => h.elim
  | .int _, .bool _, _, _, h => h.elim
  | .int _, .list _, _, _, h => h.elim
  | .int _, .dict _, _, _, h => h.elim
  | .str _, .none, _, _, h => h.elim
  | .str _, .bool _, _, _, h => h.elim
  | .str _, .list _, _, _, h => h.elim
  | .str _, .dict _, _, _, h => h.elim
  | .tuple _, .none, _, _, h => h.elim
  | .tuple _, .bool _, _, _, h => h.elim
  | .tuple _, .list _, _, _, h => h.elim
  | .tuple _, .dict _, _, _, h => h.elim
theorem NHs.inj {h : Heap} : ∀ (x y : List PyData) (v : List Value), NHs h x v → NHs h y v → x = y
  | [], [], _, _, _ => rfl
  | [], _ :: _, v, e, ⟨_, _, e', _⟩ => by cases (show v = [] from e); cases e'
  | _ :: _, [], v, ⟨_, _, e', _⟩, e => by cases (show v = [] from e); cases e'
  | x :: xs, y :: ys, v, ⟨u, r, e, h1, h2⟩, ⟨u', r', e', h1', h2'⟩ => by
    subst e
    injection e' with e1 e2
    subst e1 e2
    rw [NH.inj x y u h1 h1', NHs.inj xs ys r h2 h2']
end
mutual
theorem NH.keeps {h h' : Heap} (k : ∀ a o its n, h.get? a = some o → o.data = .seq its n → h'.get? a = some o) : ∀ (d : PyData) (v : Value), NH h d v → NH h' d v
  | .int _, _, x => x
  | .str _, _, x => x
  | .tuple ds, _, ⟨a, o, its, n, e, ho, hc, hd, r⟩ => ⟨a, o, its, n, e, k a o its n ho hd, hc, hd, NHs.keeps k ds _ r⟩
  | .none, _, x => x.elim
  | .bool _, _, x => x.elim
  | .list _, _, x => x.elim
  | .dict _, _, x => x.elim
theorem NHs.keeps {h h' : Heap} (k : ∀ a o its n, h.get? a = some o → o.data = .seq its n → h'.get? a = some o) : ∀ (d : List PyData) (v : List Value), NHs h d v → NHs h' d v
  | [], _, x => x
  | d :: ds, _, ⟨u, r, e, h1, h2⟩ => ⟨u, r, e, NH.keeps k d u h1, NHs.keeps k ds r h2⟩
end
mutual
theorem NH.reads {h : Heap} : ∀ (d : PyData) (v : Value), NH h d v → ∃ as, Reads h v d as
  | .int i, _, ⟨t, e⟩ => by subst e; exact ⟨_, .int i t⟩
  | .str i, _, ⟨t, e⟩ => by subst e; exact ⟨_, .str i t⟩
  | .tuple ds, _, ⟨a, o, its, n, e, ho, hc, hd, r⟩ => by
    subst e
    obtain ⟨as, q⟩ := NHs.reads ds _ r
    exact ⟨_, .tuple ho hc hd q⟩
  | .none, _, x => x.elim
  | .bool _, _, x => x.elim
  | .list _, _, x => x.elim
  | .dict _, _, x => x.elim
theorem NHs.reads {h : Heap} : ∀ (d : List PyData) (v : List Value), NHs h d v → ∃ as, ReadsAll h v d as
  | [], v, e => by cases (show v = [] from e); exact ⟨_, .nil⟩
  | d :: ds, _, ⟨u, r, e, h1, h2⟩ => by
    subst e
    obtain ⟨as, q⟩ := NH.reads d u h1
    obtain ⟨bs, q'⟩ := NHs.reads ds r h2
    exact ⟨_, .cons q q'⟩
end
mutual
theorem kD_lay : ∀ d : PyData, kD d = true → d.canLay0 = true
  | .int _, _ => rfl
  | .str s, h => by simpa [PyData.canLay0, kD] using h
  | .tuple ds, h => by simpa [PyData.canLay0] using kDs_lay ds (by simpa [kD] using h)
  | .none, h => by simp [kD] at h
  | .bool _, h => by simp [kD] at h
  | .list _, h => by simp [kD] at h
  | .dict _, h => by simp [kD] at h
theorem kDs_lay : ∀ ds : List PyData, kDs ds = true → PyData.canLayAll0 ds = true
  | [], _ => rfl
  | d :: ds, h => by
    have h' : kD d = true ∧ kDs ds = true := by simpa [kDs] using h
    simp [PyData.canLayAll0, kD_lay d h'.1, kDs_lay ds h'.2]
end
mutual
theorem kD_eqv : ∀ x y : PyData, kD x = true → kD y = true → (PyData.eqv x y = true ↔ x = y)
  | .int i, .int j, _, _ => by simp [PyData.eqv]
  | .int i, .str j, _, _ => by simp [PyData.eqv]
  | .int i, .tuple j, _, _ => by simp [PyData.eqv]
  | .str i, .int j, _, _ => by simp [PyData.eqv]
  | .str i, .str j, _, _ => by simp [PyData.eqv]
  | .str i, .tuple j, _, _ => by simp [PyData.eqv]
  | .tuple i, .int j, _, _ => by simp [PyData.eqv]
  | .tuple i, .str j, _, _ => by simp [PyData.eqv]
  | .tuple i, .tuple j, h, h' => by
    have := kDs_eqv i j (by simpa [kD] using h) (by simpa [kD] using h')
    simp [PyData.eqv, this]
  | .none, _, h, _ => by simp [kD] at h
  | .bool _, _, h, _ => by simp [kD] at h
  | .list _, _, h, _ => by simp [kD] at h
  | .dict _, _, h, _ => by simp [kD] at h
  | .int _, .none, _, h => by simp [kD] at h
  | .int _, .bool _, _, h => by simp [kD] at h
  | .int _, .list _, _, h => by simp [kD] at h
  | .int _, .dict _, _, h => by simp [kD] at h
  | .str _, .none, _, h => by simp [kD] at h
  | .str _, .bool _, _, h => by simp [kD] at h
  | .str _, .list _, _, h => by simp [kD] at h
  | .str _, .dict _, _, h => by simp [kD] at h
  | .tuple _, .none, _, h => by simp [kD] at h
  | .tuple _, .bool _, _, h => by simp [kD] at h
  | .tuple _, .list _, _, h => by simp [kD] at h
  | .tuple _, .dict _, _, h => by simp [kD] at h
theorem kDs_eqv : ∀ x y : List PyData, kDs x = true → kDs y = true → (PyData.eqvAll x y = true ↔ x = y)
  | [], [], _, _ => by simp [PyData.eqvAll]
  | [], _ :: _, _, _ => by simp [PyData.eqvAll]
  | _ :: _, [], _, _ => by simp [PyData.eqvAll]
  | x :: xs, y :: ys, h, h' => by
    have a : kD x = true ∧ kDs xs = true := by simpa [kDs] using h
    have b : kD y = true ∧ kDs ys = true := by simpa [kDs] using h'
    simp [PyData.eqvAll, kD_eqv x y a.1 b.1, kDs_eqv xs ys a.2 b.2]
end
section
variable {prog : Program} {w : World} {E : Value → Shared → Prop}
mutual
theorem hash_ok : ∀ (d : PyData) (A : Around) (s : Shared) (v : Value) (Q : Int → Shared → Prop), A.units + d.depth < cLine → NH s.heap d v → Q (hashD w d) { s with toks := s.toks + drawsD d } → wpAny (model prog w) A (pyHash v) Q E s
  | .int i, A, s, v, Q, _, ⟨t, e⟩, h => by subst e; exact wpAny_pyHash_int h
  | .str i, A, s, v, Q, _, ⟨t, e⟩, h => by subst e; exact wpAny_pyHash_str h
  | .tuple ds, A, s, v, Q, hu, ⟨a, o, its, n, e, ho, hc, hd, r⟩, h => by
    subst e
    have hT : s.TypeIs (.ref a) "tuple" := ⟨o, ho, hc⟩
    have hu0 : A.units < cLine := by omega
    unfold pyHash
    first | unfold pyHashByItsType | skip
    first | refine wpAny_bind (wpAny_cRoomFor_or (.inr hu0) ?_) | skip
    refine wpAny_bind (wpAny_specialOf hT F.slot_tuple_hash.lookup ?_); show wpAny _ _ (if (some (Value.builtin "tuple.__hash__") == some Value.none) = true then _ else _) Q E s
    rw [if_neg (by rw [beq_builtin_none]; exact Bool.false_ne_true)]; refine wpAny_bind (wpAny_specialOf hT F.slot_tuple_hash.lookup ?_)
    show wpAny _ _ (callSpecialIfBoundUnlessNone? (.ref a) "__hash__" _ >>= _) Q E s; refine wpAny_bind (wpAny_callSpecialIfBoundUnlessNone?_slot hT F.slot_tuple_hash (wpAny_call_entry F.slot_tuple_hash hT F.entry_tuple_hash ?_ (F.args_tuple_hash_1 _)))
    show wpAny _ _ (Builtin.Tuple.tupleItemsOf (.ref a) >>= _) _ _ s; refine wpAny_bind (wpAny_tupleItemsOf ho hd ?_)
    refine wpAny_bind ?_
    rw [← Array.forIn_toList]
    refine hashes_ok ds A.in1 s its.toList #[] _ (by show A.units + 1 + _ < cLine; simp only [PyData.depth] at hu; omega) r ?_
    have e0 : ((#[] : Array Int) ++ (hashDs w ds).toArray).toList = hashDs w ds := by simp
    show wpAny _ _ (retInt (Builtin.Tuple.tupleHashOf ((#[] : Array Int) ++ (hashDs w ds).toArray).toList)) _ _ _
    rw [e0]
    refine wpAny_ret_mkInt ?_
    simp only [hashD, drawsD] at h
    generalize hx : Builtin.Tuple.tupleHashOf (hashDs w ds) = x at h
    show wpAny _ _ (if (decide (-(2 : Int) ^ 63 ≤ x) && decide (x < 2 ^ 63)) = true then _ else _) Q E _
    unfold reduceHash at h
    by_cases hr : (decide (-(2 : Int) ^ 63 ≤ x) && decide (x < 2 ^ 63)) = true
    · rw [if_pos hr] at h ⊢
      exact wpAny_pure (by simpa [Nat.add_assoc] using h)
    · rw [if_neg hr] at h ⊢
      exact wpAny_bind (wpAny_rule (wpAny_pure (by simpa [Nat.add_assoc] using h)))
  | .none, _, _, _, _, _, x, _ => x.elim
  | .bool _, _, _, _, _, _, x, _ => x.elim
  | .list _, _, _, _, _, _, x, _ => x.elim
  | .dict _, _, _, _, _, _, x, _ => x.elim
theorem hashes_ok : ∀ (ds : List PyData) (A : Around) (s : Shared) (vs : List Value) (b : Array Int) (Q : Array Int → Shared → Prop), A.units + PyData.depthAll ds < cLine → NHs s.heap ds vs →
    Q (b ++ (hashDs w ds).toArray) { s with toks := s.toks + drawsDs ds } →
    wpAny (model prog w) A (forIn vs b fun x (r : Array Int) => do
      let h ← pyHash x
      pure PUnit.unit
      pure (ForInStep.yield (r.push h))) Q E s
  | [], A, s, vs, b, Q, _, e, h => by
    cases (show vs = [] from e)
    rw [List.forIn_nil]
    exact wpAny_pure (by simpa [hashDs, drawsDs] using h)
  | d :: ds, A, s, vs, b, Q, hu, ⟨v, r, e, h1, h2⟩, h => by
    subst e
    rw [List.forIn_cons]
    have hm : PyData.depthAll (d :: ds) = max d.depth (PyData.depthAll ds) := rfl
    rw [hm] at hu
    refine wpAny_bind (wpAny_bind (hash_ok d A s v _ (by omega) h1 ?_))
    refine wpAny_bind (wpAny_pure (wpAny_pure ?_))
    refine hashes_ok ds A { s with toks := s.toks + drawsD d } r (b.push (hashD w d)) Q (by omega) h2 ?_
    have e1 : b ++ (hashDs w (d :: ds)).toArray = b.push (hashD w d) ++ (hashDs w ds).toArray := by simp [hashDs]
    have e2 : s.toks + drawsDs (d :: ds) = s.toks + drawsD d + drawsDs ds := by simp [drawsDs, Nat.add_assoc]
    rw [e1, e2] at h
    exact h
end
theorem quiet_val (n : Nat) {v : Value} (h : carriedByValue v = true) : eqIsQuiet n v = pure true := by
  cases v with
  | ref a => simp [carriedByValue] at h
  | _ => first | rfl | simp [eqIsQuiet] | (unfold eqIsQuiet; rfl)
mutual
theorem quiet_ok : ∀ (d : PyData) (n : Nat) (A : Around) (s : Shared) (v : Value) (Q : Bool → Shared → Prop), d.depth ≤ n → NH s.heap d v → Q true s → wpAny (model prog w) A (eqIsQuiet n v) Q E s
  | .int i, n, A, s, v, Q, _, ⟨t, e⟩, h => by subst e; rw [quiet_val n rfl]; exact wpAny_pure h
  | .str i, n, A, s, v, Q, _, ⟨t, e⟩, h => by subst e; rw [quiet_val n rfl]; exact wpAny_pure h
  | .tuple ds, 0, A, s, v, Q, hn, _, _ => by simp [PyData.depth] at hn
  | .tuple ds, n + 1, A, s, v, Q, hn, ⟨a, o, its, m, e, ho, hc, hd, r⟩, h => by
    subst e
    have hT : s.TypeIs (.ref a) "tuple" := ⟨o, ho, hc⟩
    unfold eqIsQuiet
    refine wpAny_bind (wpAny_specialOf hT F.slot_tuple_eq.lookup ?_); show wpAny _ _ (isInstance (.ref a) (.type "tuple") >>= _) _ _ s
    refine wpAny_bind (wpAny_isInstance hT isSubtype_tuple_tuple ?_); simp only [Bool.not_true, Bool.false_eq_true, if_false]
    refine wpAny_bind (wpAny_seqItems ho hd (wpAny_bind ?_)); show wpAny _ _ (forIn its _ _) _ _ s
    rw [← Array.forIn_toList]
    exact quiets_ok ds n A s its.toList _ (by simp only [PyData.depth] at hn; omega) r (wpAny_pure h)
  | .none, _, _, _, _, _, _, x, _ => x.elim
  | .bool _, _, _, _, _, _, _, x, _ => x.elim
  | .list _, _, _, _, _, _, _, x, _ => x.elim
  | .dict _, _, _, _, _, _, _, x, _ => x.elim
theorem quiets_ok : ∀ (ds : List PyData) (n : Nat) (A : Around) (s : Shared) (vs : List Value) (Q : Option Bool × PUnit → Shared → Prop), PyData.depthAll ds ≤ n → NHs s.heap ds vs → Q (none, ()) s →
    wpAny (model prog w) A (forIn vs (none, ()) fun y (r : Option Bool × PUnit) => do
      let b ← eqIsQuiet n y
      if (!b) = true then pure (ForInStep.done (some false, ())) else do
        pure PUnit.unit
        pure (ForInStep.yield (none, ()))) Q E s
  | [], n, A, s, vs, Q, _, e, h => by
    cases (show vs = [] from e)
    rw [List.forIn_nil]
    exact wpAny_pure h
  | d :: ds, n, A, s, vs, Q, hn, ⟨v, r, e, h1, h2⟩, h => by
    subst e
    rw [List.forIn_cons]
    have hm : PyData.depthAll (d :: ds) = max d.depth (PyData.depthAll ds) := rfl
    rw [hm] at hn
    refine wpAny_bind (wpAny_bind (quiet_ok d n A s v _ (by omega) h1 ?_))
    simp only [Bool.not_true, Bool.false_eq_true, if_false]
    exact wpAny_pure (quiets_ok ds n A s r Q (by omega) h2 h)
end
end
/-- a key: a tuple of whole numbers, texts and such tuples, not too deep -/
def isK (d : PyData) : Prop := (∃ ds, d = .tuple ds) ∧ kD d = true ∧ d.depth ≤ 8
noncomputable instance decD : DecidableEq PyData := fun a b => Classical.propDecidable (a = b)
noncomputable def nestKind (prog : Program) (w : World) : HeapKind prog w PyData where
  is := fun h d a => isK d ∧ NH h d (.ref a)
  hash := hashD w
  draws := drawsD
  room := fun A => A.units + 8 < cLine
  inj := fun hx hy => NH.inj _ _ _ hx.2 hy.2
  keeps := fun {h h' k a d o es ep} x ho hd hs => ⟨x.1, NH.keeps (fun b ob its n hb hdb => (hs.2 b (fun z => by
    subst z
    rw [ho] at hb
    cases hb
    rw [hd] at hdb
    cases hdb)).trans hb) _ _ x.2⟩
  pyHash := fun {A E s k a Q} hu hk h => hash_ok k A s _ Q (by have := hk.1.2.2; omega) hk.2 h
  eqBool := fun {A E s x y a b Q} hu hx hy h => by
    obtain ⟨as, ra⟩ := NH.reads _ _ hx.2
    obtain ⟨bs, rb⟩ := NH.reads _ _ hy.2
    refine SeqAt.eqAt_reads x y A s _ _ as bs ra rb (kD_lay _ hx.1.2.1) (kD_lay _ hy.1.2.1) (by have := hx.1.2.2; omega) prog w E Q ?_
    have e : PyData.eqv x y = decide (x = y) := by
      have := kD_eqv x y hx.1.2.1 hy.1.2.1
      by_cases q : x = y
      · rw [decide_eq_true q]; exact this.mpr q
      · rw [decide_eq_false q]
        cases z : PyData.eqv x y with
        | true => exact absurd (this.mp z) q
        | false => rfl
    rw [e]
    exact h
  quiet := fun {A E s k a Q} hk h => quiet_ok k 8 A s _ Q hk.1.2.2 hk.2 h
end KN
set_option Elab.async false
set_option linter.all false
set_option maxRecDepth 100000
/-! THE HAND LAYER, for ints, bools, texts, own classes, LISTS and tuples (index, slices, in, append, pop ..), calls, loops. Paste it whole ahead of your own text; what your proof does not reach may be deleted. -/
namespace L2
open PySem PySem.Spec PyProof.Rows

/-- a key: an int or a str -/
abbrev Key := Sum Int Str
def keyIs : Key → Value → Bool
  | .inl k, v => Value.isInt k v
  | .inr x, v => Value.isStrOf x v
def keyH (w : World) : Key → Int
  | .inl k => hashInt k
  | .inr x => hashStr w x
theorem keyIs_shape : ∀ {k : Key} {v : Value}, keyIs k v = true → (∃ i t, k = Sum.inl i ∧ v = Value.int i t) ∨ (∃ x t, k = Sum.inr x ∧ v = Value.str x t)
  | .inl i, v, h => by
    obtain ⟨t, e⟩ := Value.isInt_shape (k := i) (v := v) h
    exact .inl ⟨i, t, rfl, e⟩
  | .inr x, v, h => by
    obtain ⟨t, e⟩ := Value.isStrOf_shape (x := x) (v := v) h
    exact .inr ⟨x, t, rfl, e⟩
theorem key_ll (a b : Int) : decide ((Sum.inl a : Key) = Sum.inl b) = (a == b) := by
  by_cases e : a = b
  · subst e; simp
  · have h : ¬ (Sum.inl a : Key) = Sum.inl b := fun q => e (Sum.inl.inj q)
    rw [decide_eq_false h]
    exact (beq_eq_false_iff_ne.mpr e).symm
theorem key_rr (a b : Str) : decide ((Sum.inr a : Key) = Sum.inr b) = decide (a = b) := by
  by_cases e : a = b
  · subst e; simp
  · have h : ¬ (Sum.inr a : Key) = Sum.inr b := fun q => e (Sum.inr.inj q)
    rw [decide_eq_false h, decide_eq_false e]
theorem key_lr (a : Int) (b : Str) : decide ((Sum.inl a : Key) = Sum.inr b) = false := decide_eq_false (fun q => nomatch q)
theorem key_rl (a : Str) (b : Int) : decide ((Sum.inr a : Key) = Sum.inl b) = false := decide_eq_false (fun q => nomatch q)

def mixKind (prog : Program) (w : World) : PySem.KeyKind prog w Key where
  is := keyIs
  hash := keyH w
  inj := fun v a b ha hb => by
    rcases keyIs_shape ha with ⟨i, t, rfl, rfl⟩ | ⟨x, t, rfl, rfl⟩
    · rcases keyIs_shape hb with ⟨j, u, rfl, e⟩ | ⟨y, u, rfl, e⟩
      · injection e with e1 _; rw [e1]
      · exact nomatch e
    · rcases keyIs_shape hb with ⟨j, u, rfl, e⟩ | ⟨y, u, rfl, e⟩
      · exact nomatch e
      · injection e with e1 _; rw [e1]
  byValue := fun k v h => by
    rcases keyIs_shape h with ⟨i, t, rfl, rfl⟩ | ⟨x, t, rfl, rfl⟩ <;> rfl
  pyHash := fun hv h => by
    rcases keyIs_shape hv with ⟨i, t, rfl, rfl⟩ | ⟨x, t, rfl, rfl⟩
    · exact wpAny_pyHash_int h
    · exact wpAny_pyHash_str h
  eqBool := fun hu hv h => by
    rcases keyIs_shape hu with ⟨i, t, rfl, rfl⟩ | ⟨x, t, rfl, rfl⟩
    · rcases keyIs_shape hv with ⟨j, u, rfl, rfl⟩ | ⟨y, u, rfl, rfl⟩
      · rw [key_ll] at h; exact wpAny_eqBool_int h
      · rw [key_lr] at h; exact SeqAt.EqAt.int_str i t y u _ _ _ _ h
    · rcases keyIs_shape hv with ⟨j, u, rfl, rfl⟩ | ⟨y, u, rfl, rfl⟩
      · rw [key_rl] at h; exact SeqAt.EqAt.str_int x t j u _ _ _ _ h
      · rw [key_rr] at h; exact wpAny_eqBool_str h
  «strs» := fun k x t v h => by
    rcases keyIs_shape h with ⟨i, u, rfl, e⟩ | ⟨y, u, rfl, e⟩
    · exact nomatch e
    · injection e with e1 _
      subst e1
      cases v <;> rfl

end L2

namespace L2
open PySem PySem.Spec PyProof.Rows

/-- a value, without the heap -/
inductive V where
  | non | bl (b : Bool) | int (i : Int) | str (x : Str) | byt (b : Array UInt8) | flt (b : UInt64) | ref (a : Addr) | ty (n : String)
  deriving DecidableEq

def RelV : V → Value → Prop
  | .non, u => u = Value.none
  | .bl b, u => u = Value.bool b
  | .int i, u => ∃ t, u = Value.int i t
  | .str x, u => ∃ t, u = Value.str x t
  | .byt b, u => ∃ t, u = Value.bytes b t
  | .flt b, u => ∃ t, u = Value.float b t
  | .ref a, u => u = Value.ref a
  | .ty n, u => u = Value.type n

abbrev Vals : List V → List Value → Prop := Paired RelV
theorem Vals.length {xs : List V} {us : List Value} (r : Vals xs us) : xs.length = us.length := Paired.length r
theorem Vals.get : ∀ {xs : List V} {us : List Value} {i : Nat} {x : V}, Vals xs us → xs[i]? = some x → ∃ u, us[i]? = some u ∧ RelV x u
  | _, _, _, _, .nil, e => by simp at e
  | _, _, 0, _, .cons r _, e => by simp at e; subst e; exact ⟨_, rfl, r⟩
  | _, _, i + 1, x, .cons _ t, e => by
    obtain ⟨u, h1, h2⟩ := Vals.get (i := i) (x := x) t (by simpa using e)
    exact ⟨u, by simpa using h1, h2⟩
theorem Vals.set {x : V} {u : Value} (r : RelV x u) : ∀ {xs : List V} {us : List Value} (i : Nat), Vals xs us → Vals (xs.set i x) (us.set i u)
  | _, _, _, .nil => .nil
  | _, _, 0, .cons _ t => .cons r t
  | _, _, i + 1, .cons q t => .cons q (Vals.set r i t)
theorem Vals.append : ∀ {xs ys : List V} {us ws : List Value}, Vals xs us → Vals ys ws → Vals (xs ++ ys) (us ++ ws)
  | _, _, _, _, .nil, s => s
  | _, _, _, _, .cons r t, s => .cons r (Vals.append t s)
theorem Vals.take : ∀ {xs : List V} {us : List Value} (n : Nat), Vals xs us → Vals (xs.take n) (us.take n)
  | _, _, 0, _ => .nil
  | _, _, _ + 1, .nil => .nil
  | _, _, n + 1, .cons r t => .cons r (Vals.take n t)
theorem Vals.drop : ∀ {xs : List V} {us : List Value} (n : Nat), Vals xs us → Vals (xs.drop n) (us.drop n)
  | _, _, 0, r => r
  | _, _, _ + 1, .nil => .nil
  | _, _, n + 1, .cons _ t => Vals.drop n t
def RelO : Option V → Option Value → Prop
  | some v, some u => RelV v u
  | none, none => True
  | _, _ => False
def KV {κ : Type} : List (κ × V) → List (κ × Value) → Prop := Paired fun (p : κ × V) (q : κ × Value) => p.1 = q.1 ∧ RelV p.2 q.2

/-- a key of a dict (00_mix): an int or a text -/
def kV : Key → V
  | .inl i => .int i
  | .inr x => .str x

/-- what stands at a tracked address -/
inductive HO where
  /-- a list -/
  | lst (xs : List V)
  /-- a tuple (never changes) -/
  | tup (xs : List V)
  /-- a dict whose keys are ints and texts; one whose keys are tuples of ints and texts (the empty one is both) -/
  | dK (kvs : List (Key × V)) | dT (kvs : List (List Key × V))
  | dN (ks : List PyData)
  /-- a set of ints: its members, its size -/
  | set (S : Int → Bool) (n : Nat)
  /-- an instance of the class at C, its dict at dx, its attributes -/
  | ins (C dx : Addr) (fs : List (Str × V))
  /-- the dict of the instance at x -/
  | own (x : Addr)
  /-- the dict of an exception -/
  | xd (fs : List (Str × V))
  /-- a bound method, f of x -/
  | met (f x : Addr)
  /-- a range object lo, lo + 1, .. below hi -/
  | rng (lo hi : Int)
  /-- a thing that is known to the object (the script; a dict while a loop walks it): read, never written while it is so -/
  | frz (o : Obj) (u : HO)
  /-- a code object's table -/
  | tbl (ps : Array Value)
  /-- any other thing, by what is true of its one object (a def of one's own: SetO a S n := HO.ext fun h => ..) -/
  | ext (φ : Heap → Prop)

abbrev Hp := Addr → Option HO
def upd (H : Hp) (a : Addr) (o : HO) : Hp := fun b => if b = a then some o else H b
theorem upd_same {H : Hp} {a : Addr} {o : HO} : upd H a o a = some o := by unfold upd; rw [if_pos rfl]
theorem upd_ne {H : Hp} {a b : Addr} {o : HO} (h : b ≠ a) : upd H a o b = H b := by unfold upd; rw [if_neg h]
theorem ne_of_none {H : Hp} {a b : Addr} {o : HO} (h : H a = some o) (h' : H b = none) : a ≠ b := by
  intro e; subst e; rw [h] at h'; cases h'

mutual
def NR (H : Hp) : PyData → V → Prop
  | .int i, v => v = .int i
  | .str x, v => v = .str x
  | .tuple ds, v => ∃ a vs, v = .ref a ∧ H a = some (.tup vs) ∧ NRs H ds vs
  | _, _ => False
def NRs (H : Hp) : List PyData → List V → Prop
  | [], vs => vs = []
  | d :: ds, vs => ∃ v r, vs = v :: r ∧ NR H d v ∧ NRs H ds r
end
mutual
theorem NR.mono {H H' : Hp} (ht : ∀ b xs, H b = some (.tup xs) → H' b = some (.tup xs)) : ∀ (d : PyData) (v : V), NR H d v → NR H' d v
  | .int _, _, x => x
  | .str _, _, x => x
  | .tuple ds, _, ⟨a, vs, e, h, r⟩ => ⟨a, vs, e, ht _ _ h, NRs.mono ht ds vs r⟩
  | .none, _, x => x.elim
  | .bool _, _, x => x.elim
  | .list _, _, x => x.elim
  | .dict _, _, x => x.elim
theorem NRs.mono {H H' : Hp} (ht : ∀ b xs, H b = some (.tup xs) → H' b = some (.tup xs)) : ∀ (d : List PyData) (v : List V), NRs H d v → NRs H' d v
  | [], _, x => x
  | d :: ds, _, ⟨v, r, e, h, t⟩ => ⟨v, r, e, NR.mono ht d v h, NRs.mono ht ds r t⟩
end
section
variable (P : Program) (w : World)
def ObjOk (H : Hp) (h : Heap) (a : Addr) : HO → Prop
  | .lst xs => xs.length ≤ sizeLine ∧ ∃ (its : List Value) (n : Nat), Vals xs its ∧ h.get? a = some { cls := .type "list", data := .seq its.toArray n }
  | .tup xs => xs.length ≤ sizeLine ∧ ∃ its : List Value, Vals xs its ∧ IsTup h a its.toArray
  | .dK kvs => kvs.length ≤ sizeLine ∧ (a == sysModules) = false ∧ ∃ vs, KV kvs vs ∧ h.DictOf (mixKind P w) a vs
  | .dT kvs => kvs.length ≤ sizeLine ∧ (a == sysModules) = false ∧ ∃ xs : List (List Key × Addr × Value),
      Paired (fun (p : List Key × V) (q : List Key × Addr × Value) => p.1 = q.1 ∧ H q.2.1 = some (.tup (p.1.map kV)) ∧ RelV p.2 q.2.2) kvs xs ∧
      ∃ o es ep, h.get? a = some o ∧ o.ExactDict ∧ o.data = .dict es ep ∧ es.toList = xs.map (entryOfKey (tupleKind (mixKind P w))) ∧ (xs.map (·.1)).Nodup
  | .dN ks => ks.length ≤ sizeLine ∧ (a == sysModules) = false ∧ ∃ xs : List (PyData × Addr × Value), xs.map (·.1) = ks ∧ (∀ x ∈ xs, KN.isK x.1 ∧ NR H x.1 (.ref x.2.1)) ∧
      ∃ o es ep, h.get? a = some o ∧ o.ExactDict ∧ o.data = .dict es ep ∧ es.toList = xs.map (entryOfKey (KN.nestKind P w)) ∧ (xs.map (·.1)).Nodup
  | .set S n => h.SetOf (intKind P w) a S n
  | .ins C dx fs => H dx = some (.own a) ∧ fs.length ≤ 1000 ∧ dx ≠ a ∧ h.get? a = some (PySem.W.instObj C dx) ∧
      ∃ mA, h.Ns1 dx mA ∧ (∀ f, RelO (fs.lookup f) (mA f)) ∧ PySem.Within mA (fs.map (·.1))
  | .own _ => ∃ o, h.get? a = some o
  | .xd fs => ∃ mA, h.Ns1 a mA ∧ ∀ f, RelO (fs.lookup f) (mA f)
  | .rng lo hi => ∃ t u v, h.get? a = some { cls := .type "range", data := .fields #[.int lo t, .int hi u, .int 1 v] }
  | .frz o u => h.get? a = some o ∧ ObjOk H h a u
  | .tbl ps => h.get? a = some { cls := .none, data := .fields ps }
  | .met f x => h.get? a = some (PySem.W.methodObj (.ref f) (.ref x))
  | .ext φ => φ h ∧ (∃ o, h.get? a = some o) ∧ ∀ h1 h2 : Heap, φ h1 → (∀ o, h1.get? a = some o → h2.get? a = some o) → φ h2
/-- the abstract heap is held -/
def HOk (H : Hp) (h : Heap) : Prop := ∀ a o, H a = some o → ObjOk P w H h a o
end

section
variable {P : Program} {w : World} {H H' : Hp} {h h' : Heap} {a : Addr} {o : HO}
theorem ObjOk.lt (x : ObjOk P w H h a o) : a < h.objs.size := by
  cases o with
  | lst xs => obtain ⟨_, _, _, _, e⟩ := x; exact Heap.lt_size e
  | tup xs => obtain ⟨_, _, _, p⟩ := x; exact p.lt
  | dK kvs => obtain ⟨_, _, _, _, o, _, _, e, _⟩ := x; exact Heap.lt_size e
  | dT kvs => obtain ⟨_, _, _, _, o, _, _, e, _⟩ := x; exact Heap.lt_size e
  | dN ks => obtain ⟨_, _, _, _, _, o, _, _, e, _⟩ := x; exact Heap.lt_size e
  | set S n => obtain ⟨o, _, _, _, e, _⟩ := x; exact Heap.lt_size e
  | ins C dx fs => obtain ⟨_, _, _, e, _⟩ := x; exact Heap.lt_size e
  | own y => obtain ⟨_, e⟩ := x; exact Heap.lt_size e
  | xd fs => obtain ⟨_, ⟨_, _, _, e, _⟩, _⟩ := x; exact Heap.lt_size e
  | rng lo hi => obtain ⟨_, _, _, e⟩ := x; exact Heap.lt_size e
  | frz ob u => obtain ⟨e, _⟩ := x; exact Heap.lt_size e
  | tbl ps => exact Heap.lt_size (show h.get? a = some _ from x)
  | met f y => exact Heap.lt_size (show h.get? a = some _ from x)
  | ext φ => obtain ⟨_, ⟨_, e⟩, _⟩ := x; exact Heap.lt_size e
theorem Paired.mapP {α β : Type} {F G : α → β → Prop} : ∀ {l₁ : List α} {l₂ : List β}, Paired F l₁ l₂ → (∀ a b, F a b → G a b) → Paired G l₁ l₂
  | _, _, .nil, _ => .nil
  | _, _, .cons r t, f => .cons (f _ _ r) (Paired.mapP t f)
/-- what an object's description leans on: its own object, its own dict, the tuples -/
theorem ObjOk.stay (x : ObjOk P w H h a o) (k : ∀ b u, (b = a ∨ H b = some (.own a)) → h.get? b = some u → h'.get? b = some u)
    (ho : ∀ b, H b = some (.own a) → H' b = some (.own a)) (ht : ∀ b xs, H b = some (.tup xs) → H' b = some (.tup xs)) : ObjOk P w H' h' a o := by
  induction o with
  | lst xs => obtain ⟨z, its, n, r, e⟩ := x; exact ⟨z, its, n, r, k _ _ (.inl rfl) e⟩
  | tup xs => obtain ⟨z, its, r, ob, e, c⟩ := x; exact ⟨z, its, r, ob, k _ _ (.inl rfl) e, c⟩
  | dK kvs => obtain ⟨z, y, vs, r, ob, es, ep, e, c⟩ := x; exact ⟨z, y, vs, r, ob, es, ep, k _ _ (.inl rfl) e, c⟩
  | dT kvs =>
    obtain ⟨z, y, xs, r, ob, es, ep, e, c⟩ := x
    exact ⟨z, y, xs, Paired.mapP r fun p q z => ⟨z.1, ht _ _ z.2.1, z.2.2⟩, ob, es, ep, k _ _ (.inl rfl) e, c⟩
  | dN ks =>
    obtain ⟨z, y, xs, r1, r2, ob, es, ep, e, c⟩ := x
    exact ⟨z, y, xs, r1, fun q hq => ⟨(r2 q hq).1, NR.mono ht _ _ (r2 q hq).2⟩, ob, es, ep, k _ _ (.inl rfl) e, c⟩
  | set S n => obtain ⟨ob, es, ep, t, e, c⟩ := x; exact ⟨ob, es, ep, t, k _ _ (.inl rfl) e, c⟩
  | ins C dx fs =>
    obtain ⟨d, z, ne, e, mA, ⟨od, es, ep, e2, c⟩, r⟩ := x
    exact ⟨ho _ d, z, ne, k _ _ (.inl rfl) e, mA, ⟨od, es, ep, k _ _ (.inr d) e2, c⟩, r⟩
  | own y => obtain ⟨ob, e⟩ := x; exact ⟨ob, k _ _ (.inl rfl) e⟩
  | xd fs => obtain ⟨mA, ⟨od, es, ep, e, c⟩, r⟩ := x; exact ⟨mA, ⟨od, es, ep, k _ _ (.inl rfl) e, c⟩, r⟩
  | rng lo hi => obtain ⟨t, u, v, e⟩ := x; exact ⟨t, u, v, k _ _ (.inl rfl) e⟩
  | frz ob u ih => obtain ⟨e, q⟩ := x; exact ⟨k _ _ (.inl rfl) e, ih q⟩
  | tbl ps =>
    have e : h.get? a = some { cls := .none, data := .fields ps } := x
    show h'.get? a = some { cls := .none, data := .fields ps }
    exact k a _ (.inl rfl) e
  | met f y =>
    have e : h.get? a = some (PySem.W.methodObj (.ref f) (.ref y)) := x
    show h'.get? a = some (PySem.W.methodObj (.ref f) (.ref y))
    exact k a _ (.inl rfl) e
  | ext φ => obtain ⟨p, ⟨o, e⟩, st⟩ := x; exact ⟨st _ _ p fun o q => k _ _ (.inl rfl) q, ⟨o, k _ _ (.inl rfl) e⟩, st⟩
theorem HOk.lt (x : HOk P w H h) (e : H a = some o) : a < h.objs.size := (x a o e).lt
theorem HOk.fresh (x : HOk P w H h) (e : h.objs.size ≤ a) : H a = none := by
  cases q : H a with
  | none => rfl
  | some u => exact absurd (Nat.lt_of_lt_of_le (x.lt q) e) (Nat.lt_irrefl _)
/-- every object of the heap is kept -/
theorem HOk.kept (x : HOk P w H h) (k : ∀ b u, h.get? b = some u → h'.get? b = some u) : HOk P w H h' := fun a o e =>
  (x a o e).stay (fun b u _ q => k b u q) (fun _ q => q) fun _ _ q => q
/-- a new object is laid and tracked -/
theorem HOk.laid (x : HOk P w H h) (k : ∀ b u, h.get? b = some u → h'.get? b = some u) (hp : h.objs.size ≤ a) (new : ObjOk P w (upd H a o) h' a o) : HOk P w (upd H a o) h' := fun b u e => by
  have hn := x.fresh hp
  by_cases hb : b = a
  · subst hb; rw [upd_same] at e; cases e; exact new
  · rw [upd_ne hb] at e
    exact (x b u e).stay (fun c v _ q => k c v q) (fun c q => by rw [upd_ne (ne_of_none q hn)]; exact q) fun c xs q => by rw [upd_ne (ne_of_none q hn)]; exact q
end

/-- what may be read as u: it is u, or a known u -/
def Rd (H : Hp) (a : Addr) (u : HO) : Prop := H a = some u ∨ ∃ o, H a = some (.frz o u)
theorem Rd.of {H : Hp} {a : Addr} {u : HO} (h : H a = some u) : Rd H a u := .inl h
theorem Rd.ok {P : Program} {w : World} {H : Hp} {h : Heap} {a : Addr} {u : HO} (r : Rd H a u) (x : HOk P w H h) : ObjOk P w H h a u := by
  rcases r with r | ⟨o, r⟩
  · exact x a u r
  · obtain ⟨_, q⟩ := x a _ r
    exact q
/-- what may be written -/
def Mut : Option HO → Prop
  | some (.lst _) => True
  | some (.dK _) => True
  | some (.dT _) => True
  | some (.dN _) => True
  | some (.set _ _) => True
  | some (.ins _ _ _) => True
  | some (.ext _) => True
  | _ => False
section
variable {P : Program} {w : World} {H : Hp} {h h' : Heap} {x e : Addr} {o' : HO}
/-- the object at e is changed: x itself, or the dict of the instance x -/
theorem HOk.write (ok : HOk P w H h) (mu : Mut (H x)) (he : e = x ∨ H e = some (.own x)) (k : ∀ b u, b ≠ e → h.get? b = some u → h'.get? b = some u) (heo : ∃ u, h'.get? e = some u)
    (new : ObjOk P w (upd H x o') h' x o') : HOk P w (upd H x o') h' := fun b u q => by
  have nown : ∀ c y, H c = some (.own y) → c ≠ x := fun c y r z => by subst z; rw [r] at mu; exact mu
  have ntup : ∀ c xs, H c = some (.tup xs) → c ≠ x := fun c xs r z => by subst z; rw [r] at mu; exact mu
  by_cases hb : b = x
  · subst hb; rw [upd_same] at q; cases q; exact new
  · rw [upd_ne hb] at q
    by_cases hbe : b = e
    · have q' : H b = some (.own x) := by
        rcases he with z | z
        · exact absurd (hbe.trans z) hb
        · rw [hbe]; exact z
      rw [q] at q'; cases q'
      obtain ⟨v, hv⟩ := heo
      exact ⟨v, by rw [hbe]; exact hv⟩
    · refine (ok b u q).stay (fun c v hc r => k c v ?_ r) (fun c r => by rw [upd_ne (nown c b r)]; exact r) fun c xs r => by rw [upd_ne (ntup c xs r)]; exact r
      rcases hc with rfl | hc
      · exact hbe
      · rintro rfl
        rcases he with z | z
        · exact nown c b hc z
        · rw [hc] at z; cases z; exact hb rfl
end

/-! ### kept unless tracked; of the frames at fs (the callers') the slots may change (an exception that passes writes there); of the records at ex (iterators) nothing is said -/
structure Un (fs ex : List Addr) (H H' : Hp) (h h' : Heap) : Prop where
  keep : ∀ b o, h.get? b = some o → H b = none → b ∉ fs → b ∉ ex → h'.get? b = some o
  slot : ∀ b o, h.get? b = some o → H b = none → b ∈ fs → b ∉ ex → ∃ sl, h'.get? b = some { o with slots := sl }
  free : ∀ b o, h.get? b = some o → H b = none → b ∉ ex → H' b = none
  there : ∀ b o, h.get? b = some o → b ∉ ex → ∃ o', h'.get? b = some o'
  tups : ∀ b xs, H b = some (.tup xs) → H' b = some (.tup xs)
  frzs : ∀ b o u, H b = some (.frz o u) → H' b = some (.frz o u)
  tbls : ∀ b ps, H b = some (.tbl ps) → ∃ more, H' b = some (.tbl (ps ++ more))
section
variable {fs fs' ex ex' : List Addr} {H H1 H2 : Hp} {h h1 h2 h' : Heap} {a x e : Addr} {o : HO}
theorem Un.any (u : Un fs ex H H1 h h1) {b : Addr} {ob : Obj} (q : h.get? b = some ob) (n : H b = none) (hx : b ∉ ex) : ∃ sl, h1.get? b = some { ob with slots := sl } := by
  by_cases hb : b ∈ fs
  · exact u.slot b ob q n hb hx
  · exact ⟨ob.slots, u.keep b ob q n hb hx⟩
theorem Un.trans (a : Un fs ex H H1 h h1) (b : Un fs ex H1 H2 h1 h2) : Un fs ex H H2 h h2 where
  keep := fun c ob q n hc hx => b.keep c ob (a.keep c ob q n hc hx) (a.free c ob q n hx) hc hx
  slot := fun c ob q n hc hx => by
    obtain ⟨sl, e1⟩ := a.slot c ob q n hc hx
    obtain ⟨sl', e2⟩ := b.slot c _ e1 (a.free c ob q n hx) hc hx
    exact ⟨sl', e2⟩
  free := fun c ob q n hx => by
    obtain ⟨o', e1⟩ := a.there c ob q hx
    exact b.free c o' e1 (a.free c ob q n hx) hx
  there := fun c ob q hx => by
    obtain ⟨o', e1⟩ := a.there c ob q hx
    exact b.there c o' e1 hx
  tups := fun c xs q => b.tups c xs (a.tups c xs q)
  frzs := fun c ob xs q => b.frzs c ob xs (a.frzs c ob xs q)
  tbls := fun c ps q => by
    obtain ⟨m1, e1⟩ := a.tbls c ps q
    obtain ⟨m2, e2⟩ := b.tbls c _ e1
    exact ⟨m1 ++ m2, by rw [e2, Array.append_assoc]⟩
theorem Un.kept (k : ∀ b u, h.get? b = some u → h'.get? b = some u) : Un fs ex H H h h' :=
  ⟨fun b ob q _ _ _ => k b ob q, fun b ob q _ _ _ => ⟨ob.slots, k b ob q⟩, fun _ _ _ n _ => n, fun b ob q _ => ⟨ob, k b ob q⟩, fun _ _ q => q, fun _ _ _ q => q, fun _ ps q => ⟨#[], by rw [q]; simp⟩⟩
theorem Un.refl : Un fs ex H H h h := Un.kept fun _ _ q => q
theorem Un.laid (k : ∀ b u, h.get? b = some u → h'.get? b = some u) (hp : h.objs.size ≤ a) (hn : H a = none) : Un fs ex H (upd H a o) h h' where
  keep := fun b u q _ _ _ => k b u q
  slot := fun b u q _ _ _ => ⟨u.slots, k b u q⟩
  free := fun b u q n _ => by rw [upd_ne (Nat.ne_of_lt (Nat.lt_of_lt_of_le (Heap.lt_size q) hp))]; exact n
  there := fun b u q _ => ⟨u, k b u q⟩
  tups := fun b xs q => by rw [upd_ne (ne_of_none q hn)]; exact q
  frzs := fun b u xs q => by rw [upd_ne (ne_of_none q hn)]; exact q
  tbls := fun b ps q => ⟨#[], by rw [upd_ne (ne_of_none q hn), q]; simp⟩
theorem Un.write (mu : Mut (H x)) (he : e = x ∨ H e = some (.own x)) (k : ∀ b u, b ≠ e → h.get? b = some u → h'.get? b = some u) (heo : ∃ u, h'.get? e = some u) : Un fs ex H (upd H x o) h h' := by
  have hx : ∀ b, H b = none → b ≠ x := fun b n z => by subst z; rw [n] at mu; exact mu
  have hb : ∀ b, H b = none → b ≠ e := fun b n z => by
    subst z
    rcases he with r | r
    · exact hx b n r
    · rw [n] at r; cases r
  have hm : ∀ b u, H b = some u → ¬ Mut (some u) → b ≠ x := fun b u q nm z => by subst z; rw [q] at mu; exact nm mu
  refine ⟨fun b u q n _ _ => k b u (hb b n) q, fun b u q n _ _ => ⟨u.slots, k b u (hb b n) q⟩, fun b u q n _ => by rw [upd_ne (hx b n)]; exact n, fun b u q _ => ?_,
    fun b xs q => by rw [upd_ne (hm b _ q fun z => z)]; exact q, fun b u xs q => by rw [upd_ne (hm b _ q fun z => z)]; exact q, fun b ps q => ⟨#[], by rw [upd_ne (hm b _ q fun z => z), q]; simp⟩⟩
  by_cases hbe : b = e
  · subst hbe; exact heo
  · exact ⟨u, k b u hbe q⟩
theorem Un.mono (u : Un fs ex H H1 h h1) (hs : ∀ b ∈ fs, b ∈ fs') (hx : ∀ b ∈ ex, b ∈ ex') : Un fs' ex' H H1 h h1 :=
  ⟨fun b ob q n hb he => u.keep b ob q n (fun z => hb (hs b z)) fun z => he (hx b z), fun _ _ q n _ he => u.any q n fun z => he (hx _ z), fun b ob q n he => u.free b ob q n fun z => he (hx b z), fun b ob q he => u.there b ob q fun z => he (hx b z), u.tups, u.frzs, u.tbls⟩
end

/-! ### the heap without what is tracked -/
def trk (h : Heap) (H : Hp) : List Addr := (List.range h.objs.size).filter fun a => (H a).isSome
def hidT (h : Heap) (H : Hp) : Heap := PySem.W.hideAll h (trk h H)
theorem hidT_size (h : Heap) (H : Hp) : (hidT h H).objs.size = h.objs.size := PySem.W.hideAll_size _ _
theorem hidT_get {h : Heap} {H : Hp} {b : Addr} {o : Obj} (e : h.get? b = some o) (n : H b = none) : (hidT h H).get? b = some o :=
  PySem.W.hideAll_get _ e fun hm => by
    have q : (H b).isSome = true := (List.mem_filter.mp hm).2
    rw [n] at q; simp at q
theorem of_hidT {h : Heap} {H : Hp} {b : Addr} {o : Obj} (e : (hidT h H).get? b = some o) : h.get? b = some o ∧ H b = none := by
  have e' : h.get? b = some o := PySem.W.of_hideAll (trk h H) e
  refine ⟨e', ?_⟩
  cases q : H b with
  | none => rfl
  | some x =>
    have hm : b ∈ trk h H := List.mem_filter.mpr ⟨List.mem_range.mpr (Heap.lt_size e'), by simp [q]⟩
    have z : (hidT h H).get? b = none := PySem.W.hideAll_none (trk h H) hm
    rw [z] at e; cases e

/-! ### OpenK's ledger, filled with every new object but one -/
def allNews (g h : Heap) (L : Addr) : List (Addr × Obj) := (List.range h.objs.size).filterMap fun a => if a = L ∨ (g.get? a).isSome = true then none else (h.get? a).map fun o => (a, o)
def rest (g h : Heap) (L d : Addr) : List (Addr × Obj) := (allNews g h L).filter fun p => decide (p.1 ≠ d)
end L2

namespace L2
open PySem PySem.Spec PyProof.Rows

/-- the module's facts, over the base: the heap at the law's entry without what is tracked there -/
structure Mod (K : PySem.W.Frag) (mg : Str → Option Value) (base : Heap) : Prop where
  kin : K.In base
  glob : base.Ns mainGlobals mg
  blt : ∃ mb, base.Ns builtinsNs mb ∧ ∀ x : Str, x ≠ "__name__" → mb x = bootBuiltins x
  nolimit : base.NoLimit

/-- the context: a def's body (or a comprehension's block) running. base: fixed through the whole law; s₀, H₀: the entry; outer: the frames whose slots others may change (a def's callers); stack: all frames that run;
   ex: iterators that were made ahead of the entry and are walked here (a comprehension's); fn: the names whose cells were made at the entry (a def: all; a comprehension's block: its own); calm: not within an except suite; pn: pins that every state bears; xe: what is wanted of an exception that leaves the code -/
structure Cx where
  prog : Program
  w : World
  K : PySem.W.Frag
  mg : Str → Option Value
  base : Heap
  A : Around
  N : List Str
  s₀ : Shared
  H₀ : Hp
  env : Env
  outer : List Env
  stack : List Env
  ex : List Addr
  fn : Str → Bool
  calm : Bool
  pn : List (Addr × Obj)
  xe : Value → Shared → Prop
/-- the callers' frames -/
def frs (l : List Env) : List Addr := l.filterMap (·.frame)
abbrev Cx.fs (X : Cx) : List Addr := frs X.outer

def Vis (sc : Scope) (x : Str) : Prop := sc.names.lookup x = some .local ∨ sc.names.lookup x = some .cell ∨ sc.names.lookup x = some .free
def Loc (sc : Scope) (x : Str) : Prop := sc.names.lookup x = some .local ∨ sc.names.lookup x = some .cell
def Look (env : Env) (h : Heap) (m : Str → Option Value) (x : Str) (u : Value) : Prop :=
  (env.kindOf x = some .local ∧ m x = some u) ∨ ((env.kindOf x = some .cell ∨ env.kindOf x = some .free) ∧ ∃ c, env.cells.lookup x = some c ∧ h.IsCell c (some u))

def stV : Value → Option V
  | .int i _ => some (.int i)
  | .str x _ => some (.str x)
  | _ => none
def stVs : List Value → Option (List V)
  | [] => some []
  | v :: r => match stV v, stVs r with
    | some x, some xs => some (x :: xs)
    | _, _ => none
/-- a tuple of whole numbers and texts -/
def stO : Obj → Option (List V)
  | ⟨.type c, _, .seq its _, _⟩ => if c = "tuple" ∧ its.size ≤ sizeLine then stVs its.toList else none
  | _ => none
def Sb (K : PySem.W.Frag) (H : Hp) (b : Addr) (o : Obj) : Prop := (H b = none ∨ ∃ u, H b = some (.frz o u)) ∧ ∀ vs, K.lookup b = some o → stO o = some vs → H b = some (.frz o (.tup vs))
theorem stVs_rel : ∀ {us : List Value} {vs : List V}, stVs us = some vs → Vals vs us
  | [], vs, e => by cases e; exact .nil
  | u :: us, vs, e => by
    unfold stVs at e
    split at e
    · rename_i x xs h1 h2
      cases e
      refine .cons ?_ (stVs_rel h2)
      unfold stV at h1
      split at h1
      · cases h1; exact ⟨_, rfl⟩
      · cases h1; exact ⟨_, rfl⟩
      · cases h1
    · cases e
theorem stO_ok {P : Program} {w : World} {H : Hp} {h : Heap} {b : Addr} {o : Obj} {vs : List V} (e : h.get? b = some o) (q : stO o = some vs) : ObjOk P w H h b (.tup vs) := by
  unfold stO at q
  split at q
  · rename_i c dd its n sl
    split at q
    · rename_i hc
      obtain ⟨rfl, hz⟩ := hc
      have r := stVs_rel q
      have hl : vs.length ≤ sizeLine := by rw [r.length]; simpa using hz
      exact ⟨hl, its.toList, r, _, e, rfl, n, by simp⟩
    · cases q
  · cases q
structure Cx.Ok (X : Cx) : Prop where
  mod : Mod X.K X.mg X.base
  kind : X.env.scope.kind = .function
  glob : X.env.globals = mainGlobals
  blt : X.env.builtins = builtinsNs
  above : X.s₀.heap.objs.size ≤ X.env.locals
  inj : ∀ x y c, X.env.cells.lookup x = some c → X.env.cells.lookup y = some c → x = y
  has : ∀ x, (X.env.kindOf x = some .cell ∨ X.env.kindOf x = some .free) → ∃ c, X.env.cells.lookup x = some c
  cab : ∀ x c, X.fn x = true → X.env.cells.lookup x = some c → X.s₀.heap.objs.size ≤ c
  hd : X.calm = true → X.A.handled = none
  frames : X.A.frames = some X.stack
  stk : X.stack = X.outer ∨ (X.stack = X.env :: X.outer ∧ X.env.frame = some X.env.locals)
  exf : ∀ b ∈ X.ex, b ≠ X.env.locals ∧ ∀ x c, X.env.cells.lookup x = some c → c ≠ b
  bs : ∀ b o, X.base.get? b = some o → X.s₀.heap.get? b = some o ∧ Sb X.K X.H₀ b o
  bsz : X.base.objs.size ≤ X.s₀.heap.objs.size
  noex : ∀ b o, X.base.get? b = some o → b ∉ X.ex
  exfs : ∀ b ∈ X.ex, b ∉ X.fs
  funs : X.s₀.heap.FunFrames X.base X.outer
  frf : ∀ b ∈ X.fs, X.H₀ b = none

structure Inv (X : Cx) (pins : List (Addr × Obj)) (σ : List (Option V)) (H : Hp) (s : Shared) : Prop where
  ok : X.Ok
  os : s.os = X.s₀.os
  bare : AllBare s.gens
  base : Un X.fs X.ex X.H₀ H X.s₀.heap s.heap
  loc : ∃ m, s.heap.Ns X.env.locals m ∧ ∀ (i : Nat) (x : Str) (v : V), X.N[i]? = some x → σ[i]? = some (some v) → Vis X.env.scope x → ∃ u, RelV v u ∧ Look X.env s.heap m x u
  cell : ∀ x c, X.env.cells.lookup x = some c → ∃ v, s.heap.IsCell c v
  free : H X.env.locals = none
  freeC : ∀ x c, X.env.cells.lookup x = some c → H c = none
  pin : ∀ p ∈ X.pn ++ pins, s.heap.get? p.1 = some p.2 ∧ H p.1 = none ∧ p.1 ≠ X.env.locals ∧ p.1 ∉ X.fs ∧ ∀ v, p.2.data ≠ .cell v
  hok : HOk X.prog X.w H s.heap
  len : σ.length = X.N.length

section
variable {X : Cx} {pins : List (Addr × Obj)} {σ : List (Option V)} {H H' : Hp} {s : Shared} {h' : Heap}

theorem Cx.Ok.nofr (ok : X.Ok) {b : Addr} {o : Obj} (e : X.base.get? b = some o) : b ∉ X.fs := fun hb => by
  have := (ok.funs.mem hb).1
  rw [e] at this; cases this
theorem Inv.bs (I : Inv X pins σ H s) : ∀ b o, X.base.get? b = some o → s.heap.get? b = some o ∧ Sb X.K H b o := fun b o e => by
  obtain ⟨h1, h2, h3⟩ := I.ok.bs b o e
  have h4 : ∀ vs, X.K.lookup b = some o → stO o = some vs → H b = some (.frz o (.tup vs)) := fun vs k q => I.base.frzs b o _ (h3 vs k q)
  rcases h2 with h2 | ⟨u, h2⟩
  · exact ⟨I.base.keep b o h1 h2 (I.ok.nofr e) (I.ok.noex b o e), .inl (I.base.free b o h1 h2 (I.ok.noex b o e)), h4⟩
  · have q := I.base.frzs b o u h2
    exact ⟨(I.hok b _ q).1, .inr ⟨u, q⟩, h4⟩
theorem Inv.bk (I : Inv X pins σ H s) : ∀ b o, X.base.get? b = some o → s.heap.get? b = some o := fun b o e => (I.bs b o e).1
theorem Inv.mod (I : Inv X pins σ H s) : Mod X.K X.mg X.base := I.ok.mod
theorem Inv.kIn (I : Inv X pins σ H s) : X.K.In s.heap := I.ok.mod.kin.keeps I.bk
theorem Inv.nolimit (I : Inv X pins σ H s) : s.heap.NoLimit := I.ok.mod.nolimit.keeps I.bk
/-- the frame over the base: for OpenK's rules (K.In X.base is I.mod.kin) -/
theorem Inv.fr (I : Inv X pins σ H s) : ∃ m, Fr X.base X.env.locals s.heap m :=
  let ⟨m, hn, _⟩ := I.loc
  ⟨m, hn, I.bk, Nat.le_trans I.ok.bsz I.ok.above⟩
theorem Inv.lt (I : Inv X pins σ H s) : X.env.locals < s.heap.objs.size := let ⟨_, hn, _⟩ := I.loc; hn.lt
theorem Inv.sz (I : Inv X pins σ H s) : X.s₀.heap.objs.size ≤ s.heap.objs.size := Nat.le_trans I.ok.above (Nat.le_of_lt I.lt)
theorem Inv.nofs (I : Inv X pins σ H s) {a : Addr} (h : s.heap.objs.size ≤ a) : a ∉ X.fs := fun hb => by
  obtain ⟨_, o, ho, _⟩ := I.ok.funs.mem hb
  exact absurd (Nat.lt_of_lt_of_le (Heap.lt_size ho) (Nat.le_trans I.sz h)) (Nat.lt_irrefl _)
theorem Inv.cne (I : Inv X pins σ H s) : ∀ x c, X.env.cells.lookup x = some c → c ≠ X.env.locals := fun x c e z => by
  obtain ⟨v, o, ho, hd⟩ := I.cell x c e
  obtain ⟨m, ⟨o', es, ep, ho', hd', _⟩, _⟩ := I.loc
  rw [z, ho'] at ho; cases ho; rw [hd'] at hd; cases hd
theorem Inv.funs (I : Inv X pins σ H s) : s.heap.FunFrames X.base X.outer := by
  have all : ∀ (l : List Env), (∀ b ∈ frs l, b ∈ X.fs) → X.s₀.heap.FunFrames X.base l → s.heap.FunFrames X.base l := by
    intro l
    induction l with
    | nil => intro _ _; trivial
    | cons env r ih =>
      intro hs hl
      obtain ⟨hk, ⟨L, o, hf, hn, ho, hd⟩, hr⟩ := hl
      have hL : L ∈ X.fs := hs L (by unfold frs; rw [List.filterMap_cons, hf]; exact List.mem_cons_self)
      obtain ⟨sl, e⟩ := I.base.slot L o ho (I.ok.frf L hL) hL fun z => I.ok.exfs L z hL
      exact ⟨hk, ⟨L, _, hf, hn, e, hd⟩, ih (fun b hb => hs b (by unfold frs; rw [List.filterMap_cons, hf]; exact List.mem_cons_of_mem _ hb)) hr⟩
  exact all X.outer (fun _ hb => hb) I.ok.funs

/-- the frames that run, for a call -/
theorem Inv.stack (I : Inv X pins σ H s) : s.heap.FunFrames X.base X.stack := by
  rcases I.ok.stk with e | ⟨e, hf⟩
  · rw [e]; exact I.funs
  · rw [e]
    obtain ⟨m, hn, _⟩ := I.loc
    refine .cons (by rw [I.ok.kind]; decide) hf hn ?_ I.funs
    exact Heap.get?_none_of_le (Nat.le_trans I.ok.bsz I.ok.above)
theorem Inv.stkSub (I : Inv X pins σ H s) : ∀ b ∈ frs X.stack, b ∈ X.env.locals :: X.fs := fun b hb => by
  rcases I.ok.stk with e | ⟨e, hf⟩
  · rw [e] at hb; exact List.mem_cons_of_mem _ hb
  · rw [e] at hb
    unfold frs at hb
    rw [List.filterMap_cons, hf] at hb
    exact hb
theorem Inv.stkFree (I : Inv X pins σ H s) : ∀ b ∈ frs X.stack, H b = none := fun b hb => by
  rcases List.mem_cons.mp (I.stkSub b hb) with e | hb
  · rw [e]; exact I.free
  · obtain ⟨_, o, ho, _⟩ := I.ok.funs.mem hb
    exact I.base.free b o ho (I.ok.frf b hb) fun z => I.ok.exfs b z hb

/-- THE STEP: the untracked objects but the frame and the records at ch are kept (the callers' frames up to slots), the frame's map is kept, the new abstract heap is held -/
theorem Inv.step {g' : Array GenState} {t' : Nat} {d' : Drawn} {ch : List Addr} (I : Inv X pins σ H s)
    (hch : ∀ b ∈ ch, (b ∈ X.ex ∨ X.s₀.heap.objs.size ≤ b) ∧ b ≠ X.env.locals ∧ (∀ x c, X.env.cells.lookup x = some c → c ≠ b) ∧ ∀ p ∈ X.pn ++ pins, p.1 ≠ b)
    (keep : ∀ b o, b ≠ X.env.locals → b ∉ X.fs → b ∉ ch → s.heap.get? b = some o → H b = none → h'.get? b = some o)
    (slot : ∀ b o, b ≠ X.env.locals → b ∈ X.fs → b ∉ ch → s.heap.get? b = some o → H b = none → ∃ sl, h'.get? b = some { o with slots := sl }) (free : ∀ b o, b ∉ ch → s.heap.get? b = some o → H b = none → H' b = none)
    (there : ∀ b o, b ∉ ch → s.heap.get? b = some o → ∃ o', h'.get? b = some o')
    (tups : ∀ b xs, H b = some (.tup xs) → H' b = some (.tup xs)) (frzs : ∀ b o u, H b = some (.frz o u) → H' b = some (.frz o u)) (tbls : ∀ b ps, H b = some (.tbl ps) → ∃ more, H' b = some (.tbl (ps ++ more)))
    (ns : ∀ m, s.heap.Ns X.env.locals m → h'.Ns X.env.locals m) (hok : HOk X.prog X.w H' h') (hg : AllBare g') :
    Inv X pins σ H' { s with heap := h', gens := g', drawn := d', toks := t' } := by
  have neL : ∀ b o, X.s₀.heap.get? b = some o → b ≠ X.env.locals := fun b o e => Nat.ne_of_lt (Nat.lt_of_lt_of_le (Heap.lt_size e) I.ok.above)
  have neC : ∀ b o, X.s₀.heap.get? b = some o → b ∉ X.ex → b ∉ ch := fun b o e hx hb => by
    rcases (hch b hb).1 with z | z
    · exact hx z
    · exact absurd (Nat.lt_of_lt_of_le (Heap.lt_size e) z) (Nat.lt_irrefl _)
  have cellK : ∀ x c, X.env.cells.lookup x = some c → ∀ v, s.heap.IsCell c v → h'.IsCell c v := fun x c e v ⟨o, ho, hd⟩ => by
    have nch : c ∉ ch := fun z => (hch c z).2.2.1 x c e rfl
    by_cases hc : c ∈ X.fs
    · obtain ⟨sl, q⟩ := slot c o (I.cne x c e) hc nch ho (I.freeC x c e)
      exact ⟨_, q, hd⟩
    · exact ⟨o, keep c o (I.cne x c e) hc nch ho (I.freeC x c e), hd⟩
  refine ⟨I.ok, I.os, hg, ⟨fun b o e n hb hx => ?_, fun b o e n hb hx => ?_, fun b o e n hx => ?_, fun b o e hx => ?_, fun b xs e => tups b xs (I.base.tups b xs e), fun b o xs e => frzs b o xs (I.base.frzs b o xs e), fun b ps e => ?_⟩, ?_, fun x c e => ?_, ?_, fun x c e => ?_, fun p hp => ?_, hok, I.len⟩
  · exact keep b o (neL b o e) hb (neC b o e hx) (I.base.keep b o e n hb hx) (I.base.free b o e n hx)
  · obtain ⟨sl, e1⟩ := I.base.slot b o e n hb hx
    obtain ⟨sl', e2⟩ := slot b _ (neL b o e) hb (neC b o e hx) e1 (I.base.free b o e n hx)
    exact ⟨sl', e2⟩
  · obtain ⟨o', e1⟩ := I.base.there b o e hx
    exact free b o' (neC b o e hx) e1 (I.base.free b o e n hx)
  · obtain ⟨o', e1⟩ := I.base.there b o e hx
    exact there b o' (neC b o e hx) e1
  · obtain ⟨m1, e1⟩ := I.base.tbls b ps e
    obtain ⟨m2, e2⟩ := tbls b _ e1
    exact ⟨m1 ++ m2, by rw [e2, Array.append_assoc]⟩
  · obtain ⟨m, hn, hl⟩ := I.loc
    refine ⟨m, ns m hn, fun i x v e1 e2 e3 => ?_⟩
    obtain ⟨u, r, l⟩ := hl i x v e1 e2 e3
    refine ⟨u, r, ?_⟩
    rcases l with l | ⟨k, c, e, z⟩
    · exact .inl l
    · exact .inr ⟨k, c, e, cellK x c e _ z⟩
  · obtain ⟨v, z⟩ := I.cell x c e
    exact ⟨v, cellK x c e v z⟩
  · obtain ⟨m, ⟨o, _, _, ho, _⟩, _⟩ := I.loc
    exact free _ o (fun z => (hch _ z).2.1 rfl) ho I.free
  · obtain ⟨v, o, ho, hd⟩ := I.cell x c e
    exact free c o (fun z => (hch c z).2.2.1 x c e rfl) ho (I.freeC x c e)
  · obtain ⟨e, n, ne, nf, d⟩ := I.pin p hp
    have nch : p.1 ∉ ch := fun z => (hch p.1 z).2.2.2 p hp rfl
    exact ⟨keep p.1 p.2 ne nf nch e n, free p.1 p.2 nch e n, ne, nf, d⟩
/-- .. where the frame's own object is kept too -/
theorem Inv.un {t' : Nat} (I : Inv X pins σ H s) (u : Un X.fs [] H H' s.heap h') (hok : HOk X.prog X.w H' h') : Inv X pins σ H' { s with heap := h', toks := t' } := by
  obtain ⟨m, ⟨o, es, ep, ho, r⟩, _⟩ := id I.loc
  obtain ⟨sl, hL⟩ := u.any ho I.free (by simp)
  exact I.step (g' := s.gens) (d' := s.drawn) (ch := []) (fun _ z => nomatch z) (fun b o _ hb _ e n => u.keep b o e n hb (by simp)) (fun b o _ hb _ e n => u.slot b o e n hb (by simp)) (fun b o _ e n => u.free b o e n (by simp)) (fun b o _ e => u.there b o e (by simp)) u.tups u.frzs u.tbls (fun m' hm => by
    obtain ⟨o', es', ep', ho', r'⟩ := hm
    rw [ho] at ho'; cases ho'
    exact ⟨_, es', ep', hL, r'⟩) hok I.bare
/-- behind a call (or a comprehension's block): the slots of this frame may have changed too, the records at ch may have turned -/
theorem Inv.call {g' : Array GenState} {t' : Nat} {d' : Drawn} {ch : List Addr} (I : Inv X pins σ H s) (u : Un (frs X.stack) ch H H' s.heap h') (hok : HOk X.prog X.w H' h') (hg : AllBare g')
    (hch : ∀ b ∈ ch, (b ∈ X.ex ∨ X.s₀.heap.objs.size ≤ b) ∧ b ≠ X.env.locals ∧ (∀ x c, X.env.cells.lookup x = some c → c ≠ b) ∧ ∀ p ∈ X.pn ++ pins, p.1 ≠ b) :
    Inv X pins σ H' { s with heap := h', gens := g', drawn := d', toks := t' } := by
  obtain ⟨m, ⟨o, es, ep, ho, r⟩, _⟩ := id I.loc
  obtain ⟨sl, hL⟩ := u.any ho I.free fun z => (hch _ z).2.1 rfl
  exact I.step (ch := ch) hch (fun b o hL hb hc e n => u.keep b o e n (fun z => (List.mem_cons.mp (I.stkSub b z)).elim hL hb) hc) (fun b o _ _ hc e n => u.any e n hc) (fun b o hc e n => u.free b o e n hc) (fun b o hc e => u.there b o e hc) u.tups u.frzs u.tbls (fun m' hm => by
    obtain ⟨o', es', ep', ho', r'⟩ := hm
    rw [ho] at ho'; cases ho'
    exact ⟨_, es', ep', hL, r'⟩) hok hg
/-- an untracked record of ours (an iterator) has turned -/
theorem Inv.turned {t' : Nat} {it : Addr} (I : Inv X pins σ H s) (k : ∀ b o, b ≠ it → s.heap.get? b = some o → h'.get? b = some o) (hn : H it = none) (hL : it ≠ X.env.locals)
    (h1 : it ∈ X.ex ∨ X.s₀.heap.objs.size ≤ it) (h2 : ∀ x c, X.env.cells.lookup x = some c → c ≠ it) (h3 : ∀ p ∈ X.pn ++ pins, p.1 ≠ it) : Inv X pins σ H { s with heap := h', toks := t' } := by
  have nit : ∀ b u, H b = some u → b ≠ it := fun b u e z => by rw [z, hn] at e; cases e
  refine I.step (g' := s.gens) (d' := s.drawn) (ch := [it]) (fun b hb => ?_) (fun b o _ _ hc e _ => k b o (fun z => hc (by simp [z])) e) (fun b o _ _ hc e _ => ⟨o.slots, k b o (fun z => hc (by simp [z])) e⟩) (fun _ _ _ _ n => n)
    (fun b o hc e => ⟨o, k b o (fun z => hc (by simp [z])) e⟩) (fun _ _ e => e) (fun _ _ _ e => e) (fun b ps e => ⟨#[], by rw [e]; simp⟩) (fun m hm => ?_) (fun b u e => ?_) I.bare
  · have e : b = it := by simpa using hb
    subst e
    exact ⟨h1, hL, h2, h3⟩
  · obtain ⟨o, es, ep, ho, r⟩ := hm
    exact ⟨o, es, ep, k _ o (Ne.symm hL) ho, r⟩
  · refine (I.hok b u e).stay (fun c v hc q => k c v ?_ q) (fun _ q => q) fun _ _ q => q
    rcases hc with z | z
    · rw [z]; exact nit b u e
    · exact nit c _ z
theorem Inv.tok (I : Inv X pins σ H s) (t : Nat) : Inv X pins σ H { s with toks := t } := I.un (h' := s.heap) (t' := t) Un.refl I.hok
/-- all objects kept -/
theorem Inv.kept {t' : Nat} (I : Inv X pins σ H s) (k : ∀ b u, s.heap.get? b = some u → h'.get? b = some u) : Inv X pins σ H { s with heap := h', toks := t' } := I.un (Un.kept k) (I.hok.kept k)
/-- a new object laid and tracked -/
theorem Inv.laid {a : Addr} {o : HO} {t' : Nat} (I : Inv X pins σ H s) (k : ∀ b u, s.heap.get? b = some u → h'.get? b = some u) (hp : s.heap.objs.size ≤ a) (new : ObjOk X.prog X.w (upd H a o) h' a o) :
    Inv X pins σ (upd H a o) { s with heap := h', toks := t' } := I.un (Un.laid k hp (I.hok.fresh hp)) (I.hok.laid k hp new)
/-- an object written -/
theorem Inv.write {x e : Addr} {o : HO} {t' : Nat} (I : Inv X pins σ H s) (mu : Mut (H x)) (he : e = x ∨ H e = some (.own x)) (k : ∀ b u, b ≠ e → s.heap.get? b = some u → h'.get? b = some u) (heo : ∃ u, h'.get? e = some u)
    (new : ObjOk X.prog X.w (upd H x o) h' x o) : Inv X pins σ (upd H x o) { s with heap := h', toks := t' } := I.un (Un.write mu he k heo) (I.hok.write mu he k heo new)
theorem Inv.pins_of {pins' : List (Addr × Obj)} (I : Inv X pins σ H s) (h : ∀ p ∈ pins', s.heap.get? p.1 = some p.2 ∧ H p.1 = none ∧ p.1 ≠ X.env.locals ∧ p.1 ∉ X.fs ∧ ∀ v, p.2.data ≠ .cell v) : Inv X pins' σ H s :=
  ⟨I.ok, I.os, I.bare, I.base, I.loc, I.cell, I.free, I.freeC, fun p hp => (List.mem_append.mp hp).elim (fun z => I.pin p (List.mem_append_left _ z)) (h p), I.hok, I.len⟩

theorem nodup_ix {N : List Str} (hN : N.Nodup) {i j : Nat} {x : Str} (a : N[i]? = some x) (b : N[j]? = some x) : i = j := by
  obtain ⟨h1, e1⟩ := List.getElem?_eq_some_iff.mp a
  obtain ⟨h2, e2⟩ := List.getElem?_eq_some_iff.mp b
  exact (List.getElem_inj hN).mp (e1.trans e2.symm)

/-- a name is stored; what changed -/
theorem store_ok2 {M : Model} {A : Around} {E : Value → Shared → Prop} {i : Nat} {x : Str} {v : V} {u : Value} {Q : Unit → Shared → Prop} (I : Inv X pins σ H s) (hN : X.N.Nodup) (hi : X.N[i]? = some x) (hx : Loc X.env.scope x) (r : RelV v u)
    (h : ∀ s', Inv X pins (σ.set i (some v)) H s' → (∃ a, Heap.SameBut a s.heap s'.heap ∧ (a = X.env.locals ∨ X.env.cells.lookup x = some a)) → Q () s') (hf : X.fn x = true ∨ X.env.scope.names.lookup x = some .local := by first | exact .inl rfl | exact .inr rfl | assumption) : wpAny M A (storeName X.env x u) Q E s := by
  obtain ⟨m, hn, hl⟩ := id I.loc
  have hcls : (X.env.scope.kind == .class || (X.env.scope.kind == .module && X.env.locals != X.env.globals)) = false := by rw [I.ok.kind]; rfl
  have hiσ : i < σ.length := by rw [I.len]; exact (List.getElem?_eq_some_iff.mp hi).1
  have cne := I.cne
  have tracked : ∀ {a : Addr} {h' : Heap}, (∃ o, s.heap.get? a = some o ∧ H a = none) → Heap.SameBut a s.heap h' → HOk X.prog X.w H h' := fun {a h'} ha hs b ob e => by
    obtain ⟨_, _, hfree⟩ := ha
    refine (I.hok b ob e).stay (fun c w' hc q => (hs.2 c ?_).trans q) (fun _ q => q) fun _ _ q => q
    rintro rfl
    rcases hc with rfl | hc
    · rw [hfree] at e; cases e
    · rw [hfree] at hc; cases hc
  rcases hx with hk | hk
  · refine wpAny_storeName_local hk hn (fun h' hn' hs => ?_) hcls
    obtain ⟨oL, _, _, hoL, _⟩ := id hn
    refine h _ ⟨I.ok, I.os, I.bare, ⟨fun b o e n hb hx => ?_, fun b o e n hb hx => ?_, I.base.free, fun b o e hx => ?_, I.base.tups, I.base.frzs, I.base.tbls⟩, ⟨_, hn', fun j y v' e1 e2 e3 => ?_⟩, fun y c e => ?_, I.free, I.freeC, fun p hp => ?_, tracked ⟨oL, hoL, I.free⟩ hs, by simpa using I.len⟩ ⟨_, hs, .inl rfl⟩
    · exact (hs.2 b (Nat.ne_of_lt (Nat.lt_of_lt_of_le (Heap.lt_size e) I.ok.above))).trans (I.base.keep b o e n hb hx)
    · obtain ⟨sl, e1⟩ := I.base.slot b o e n hb hx
      exact ⟨sl, (hs.2 b (Nat.ne_of_lt (Nat.lt_of_lt_of_le (Heap.lt_size e) I.ok.above))).trans e1⟩
    · obtain ⟨o', e1⟩ := I.base.there b o e hx
      exact ⟨o', (hs.2 b (Nat.ne_of_lt (Nat.lt_of_lt_of_le (Heap.lt_size e) I.ok.above))).trans e1⟩
    · by_cases hj : j = i
      · subst hj
        rw [hi] at e1; cases e1
        rw [List.getElem?_set_self hiσ] at e2
        cases e2
        exact ⟨u, r, .inl ⟨hk, by simp⟩⟩
      · rw [List.getElem?_set_ne (Ne.symm hj)] at e2
        obtain ⟨u', r', q⟩ := hl j y v' e1 e2 e3
        refine ⟨u', r', ?_⟩
        rcases q with ⟨k, e⟩ | ⟨k, c, e, z⟩
        · refine .inl ⟨k, ?_⟩
          have : y ≠ x := fun e => hj (nodup_ix hN e1 (e ▸ hi))
          simp [this, e]
        · exact .inr ⟨k, c, e, z.sameBut hs (cne y c e)⟩
    · obtain ⟨w', z⟩ := I.cell y c e
      exact ⟨w', z.sameBut hs (cne y c e)⟩
    · obtain ⟨e, n, ne, nf, d⟩ := I.pin p hp
      exact ⟨(hs.2 p.1 ne).trans e, n, ne, nf, d⟩
  · have hfn : X.fn x = true := by
      rcases hf with z | z
      · exact z
      · rw [z] at hk; cases hk
    obtain ⟨c, hc⟩ := I.ok.has x (.inl hk)
    obtain ⟨w', z⟩ := I.cell x c hc
    refine wpAny_storeName_cell I.ok.kind hk hc z (fun h' hc' hs => ?_)
    obtain ⟨oc, hoc, hocd⟩ := id z
    refine h { s with heap := h' } ⟨I.ok, I.os, I.bare, ⟨fun b o e n hb hx => ?_, fun b o e n hb hx => ?_, I.base.free, fun b o e hx => ?_, I.base.tups, I.base.frzs, I.base.tbls⟩, ⟨m, hn.sameBut hs (Ne.symm (cne x c hc)), fun j y v' e1 e2 e3 => ?_⟩, fun y c' e => ?_, I.free, I.freeC, fun p hp => ?_, tracked ⟨oc, hoc, I.freeC x c hc⟩ hs, by simpa using I.len⟩ ⟨c, hs, .inr hc⟩
    · exact (hs.2 b (Nat.ne_of_lt (Nat.lt_of_lt_of_le (Heap.lt_size e) (I.ok.cab x c hfn hc)))).trans (I.base.keep b o e n hb hx)
    · obtain ⟨sl, e1⟩ := I.base.slot b o e n hb hx
      exact ⟨sl, (hs.2 b (Nat.ne_of_lt (Nat.lt_of_lt_of_le (Heap.lt_size e) (I.ok.cab x c hfn hc)))).trans e1⟩
    · obtain ⟨o', e1⟩ := I.base.there b o e hx
      exact ⟨o', (hs.2 b (Nat.ne_of_lt (Nat.lt_of_lt_of_le (Heap.lt_size e) (I.ok.cab x c hfn hc)))).trans e1⟩
    · by_cases hj : j = i
      · subst hj
        rw [hi] at e1; cases e1
        rw [List.getElem?_set_self hiσ] at e2
        cases e2
        exact ⟨u, r, .inr ⟨.inl hk, c, hc, hc'⟩⟩
      · rw [List.getElem?_set_ne (Ne.symm hj)] at e2
        obtain ⟨u', r', q⟩ := hl j y v' e1 e2 e3
        refine ⟨u', r', ?_⟩
        rcases q with q | ⟨k, c', e, z'⟩
        · exact .inl q
        · refine .inr ⟨k, c', e, z'.sameBut hs ?_⟩
          rintro rfl
          exact hj (nodup_ix hN e1 (I.ok.inj _ _ _ e hc ▸ hi))
    · by_cases hcc : c' = c
      · subst hcc; exact ⟨_, hc'⟩
      · obtain ⟨w2, z2⟩ := I.cell y c' e
        exact ⟨w2, z2.sameBut hs hcc⟩
    · obtain ⟨e, n, ne, nf, d⟩ := I.pin p hp
      refine ⟨(hs.2 p.1 ?_).trans e, n, ne, nf, d⟩
      intro q
      rw [q, hoc] at e
      have q' : oc = p.2 := Option.some.inj e
      exact d w' (by rw [← q']; exact hocd)
theorem store_ok {M : Model} {A : Around} {E : Value → Shared → Prop} {i : Nat} {x : Str} {v : V} {u : Value} {Q : Unit → Shared → Prop} (I : Inv X pins σ H s) (hN : X.N.Nodup) (hi : X.N[i]? = some x) (hx : Loc X.env.scope x) (r : RelV v u)
    (h : ∀ s', Inv X pins (σ.set i (some v)) H s' → Q () s') (hf : X.fn x = true ∨ X.env.scope.names.lookup x = some .local := by first | exact .inl rfl | exact .inr rfl | assumption) : wpAny M A (storeName X.env x u) Q E s :=
  store_ok2 I hN hi hx r (fun s' I' _ => h s' I') hf
end

/-! ### the judgements -/
/-- an exception: its class, its own dict's address (where it has one), the abstract heap behind it -/
abbrev XK := Value → Option Addr → Hp → Prop
abbrev St := List (Option V)
abbrev VK := V → Hp → Prop
/-- an expression's reading; a test's; an argument list's -/
abbrev TE := St → Hp → VK → Prop
abbrev TT := St → Hp → (Bool → Hp → Prop) → Prop
abbrev TA := St → Hp → (List V → Hp → Prop) → Prop
/-- what is wanted behind a statement -/
structure Ends where
  nx : St → Hp → Prop
  rt : VK
  bk : St → Hp → Prop := fun _ _ => False
  ct : St → Hp → Prop := fun _ _ => False
abbrev TS := Ends → St → Hp → Prop

def EP (X : Cx) (pins : List (Addr × Obj)) (σ : St) (Q : VK) (u : Value) (s' : Shared) : Prop := ∃ v H', Inv X pins σ H' s' ∧ RelV v u ∧ Q v H'
def TP (X : Cx) (pins : List (Addr × Obj)) (σ : St) (Q : Bool → Hp → Prop) (b : Bool) (s' : Shared) : Prop := ∃ H', Inv X pins σ H' s' ∧ Q b H'
def AP (X : Cx) (pins : List (Addr × Obj)) (σ : St) (Q : List V → Hp → Prop) (us : List Value) (s' : Shared) : Prop := ∃ vs H', Inv X pins σ H' s' ∧ Vals vs us ∧ Q vs H'
def SP (X : Cx) (pins : List (Addr × Obj)) (D : Ends) (f : Flow) (s' : Shared) : Prop :=
  match f with
  | .next => ∃ σ' H', Inv X pins σ' H' s' ∧ D.nx σ' H'
  | .brk => ∃ σ' H', Inv X pins σ' H' s' ∧ D.bk σ' H'
  | .cont => ∃ σ' H', Inv X pins σ' H' s' ∧ D.ct σ' H'
  | .ret u => ∃ v σ' H', Inv X pins σ' H' s' ∧ RelV v u ∧ D.rt v H'

def PE (X : Cx) (e : Expr) (t : TE) : Prop :=
  ∀ (pins : List (Addr × Obj)) (s : Shared) (σ : St) (H : Hp) (Q : VK), Inv X pins σ H s → t σ H Q → wpAny (model X.prog X.w) X.A (eval e X.env) (EP X pins σ Q) X.xe s
def PT (X : Cx) (e : Expr) (t : TT) : Prop :=
  ∀ (pins : List (Addr × Obj)) (s : Shared) (σ : St) (H : Hp) (Q : Bool → Hp → Prop), Inv X pins σ H s → t σ H Q → wpAny (model X.prog X.w) X.A (isTrue e X.env (eval e X.env)) (TP X pins σ Q) X.xe s
/-- a test whatever its 'whole' is (and, or) -/
def PW (X : Cx) (e : Expr) (t : TT) : Prop :=
  ∀ (whole : Sem Value) (pins : List (Addr × Obj)) (s : Shared) (σ : St) (H : Hp) (Q : Bool → Hp → Prop), Inv X pins σ H s → t σ H Q → wpAny (model X.prog X.w) X.A (isTrue e X.env whole) (TP X pins σ Q) X.xe s
theorem PW.pt {X : Cx} {e : Expr} {t : TT} (h : PW X e t) : PT X e t := h _
/-- an argument list (no star), from the left -/
def PA (X : Cx) (es : List Expr) (t : TA) : Prop :=
  ∀ (pos : Pos) (pins : List (Addr × Obj)) (s : Shared) (σ : St) (H : Hp) (Q : List V → Hp → Prop), Inv X pins σ H s → t σ H Q → wpAny (model X.prog X.w) X.A (spliced (backTo pos (starEach es X.env))) (AP X pins σ Q) X.xe s
def PS (X : Cx) (st : Stmt) (t : TS) : Prop :=
  ∀ (pins : List (Addr × Obj)) (s : Shared) (σ : St) (H : Hp) (D : Ends), Inv X pins σ H s → t D σ H → wpAny (model X.prog X.w) X.A (exec st X.env) (SP X pins D) X.xe s
def PSs (X : Cx) (st : List Stmt) (t : TS) : Prop :=
  ∀ (pins : List (Addr × Obj)) (s : Shared) (σ : St) (H : Hp) (D : Ends), Inv X pins σ H s → t D σ H → wpAny (model X.prog X.w) X.A (execs st X.env) (SP X pins D) X.xe s
/-- weaken the end -/
theorem thn {α : Type} {t : Sem α} {Q Q' : α → Shared → Prop} {M : Model} {A : Around} {E : Value → Shared → Prop} {s : Shared} (h : wpAny M A t Q E s) (hQ : ∀ a s, Q a s → Q' a s) : wpAny M A t Q' E s := wpAny_mono h hQ fun _ _ x => x
end L2

namespace L2
open PySem PySem.Spec PyProof.Rows
section
variable {X : Cx}

/-! ### names and constants -/
def tVar (i : Nat) : TE := fun σ H Q => ∃ v, σ[i]? = some (some v) ∧ Q v H
def tC (v : V) : TE := fun _ H Q => Q v H
theorem pe_var {i : Nat} {x : Str} {pos : Pos} (hN : X.N[i]? = some x) (hv : Vis X.env.scope x) (hd : (x == ("__debug__" : Str)) = false := by decide) (hcd : (x == ("__classdict__" : Str)) = false := by decide) : PE X (.Name x pos) (tVar i) := by
  intro pins s σ H Q I h
  obtain ⟨v, e, h⟩ := h
  obtain ⟨m, hn, hl⟩ := I.loc
  obtain ⟨u, r, l⟩ := hl i x v hN e hv
  have fin : EP X pins σ Q u s := ⟨v, H, I, r, h⟩
  rcases l with ⟨hk, hm⟩ | ⟨hk, c, hc, hcell⟩
  · exact wpAny_Name (wpAny_loadName_local I.ok.kind hk hn hm fin) hd
  · rcases hk with hk | hk
    · exact wpAny_Name (wpAny_loadName_cell I.ok.kind hk hc hcell fin) hd
    · exact wpAny_Name (wpAny_loadName_free I.ok.kind hk hc hcell fin hcd) hd
theorem pe_int {i j pos} : PE X (.Constant (.int i) j pos) (tC (.int i)) := fun _ _ _ H _ I h => wpAny_Constant_int ⟨.int i, H, I.tok _, ⟨_, rfl⟩, h⟩
theorem pe_bl {b j pos} : PE X (.Constant (.bool b) j pos) (tC (.bl b)) := fun _ _ _ H _ I h => Constant_bool ⟨.bl b, H, I, rfl, h⟩
theorem pe_non {j pos} : PE X (.Constant .none j pos) (tC .non) := fun _ _ _ H _ I h => Constant_none ⟨.non, H, I, rfl, h⟩
theorem pe_str {x j pos} : PE X (.Constant (.str x) j pos) (tC (.str x)) := fun _ _ _ H _ I h => Calls.Constant_str ⟨.str x, H, I.tok _, ⟨_, rfl⟩, h⟩

/-- a global name of the def -/
def Gl (X : Cx) (x : Str) : Prop := X.env.kindOf x = some .globalImplicit
theorem ld_glob {E : Value → Shared → Prop} {pins : List (Addr × Obj)} {s : Shared} {σ : St} {H : Hp} {x : Str} {u : Value} {pos : Pos} {Q : Value → Shared → Prop} (I : Inv X pins σ H s) (hg : Gl X x) (hm : X.mg x = some u) (h : Q u s)
    (hd : (x == ("__debug__" : Str)) = false := by decide) : wpAny (model X.prog X.w) X.A (eval (.Name x pos) X.env) Q E s :=
  Calls.Name_function_global I.ok.kind hg (Calls.loadGlobal_global (by rw [I.ok.glob]; exact I.mod.glob.keeps I.bk) hm h) hd
theorem ld_blt {E : Value → Shared → Prop} {pins : List (Addr × Obj)} {s : Shared} {σ : St} {H : Hp} {x : Str} {u : Value} {pos : Pos} {Q : Value → Shared → Prop} (I : Inv X pins σ H s) (hg : Gl X x) (hm : X.mg x = none) (hv : bootBuiltins x = some u) (h : Q u s)
    (hn : x ≠ "__name__" := by decide) (hd : (x == ("__debug__" : Str)) = false := by decide) : wpAny (model X.prog X.w) X.A (eval (.Name x pos) X.env) Q E s := by
  obtain ⟨mb, h1, h2⟩ := I.mod.blt
  exact Calls.Name_function_global I.ok.kind hg (Calls.loadGlobal_builtin (by rw [I.ok.glob]; exact I.mod.glob.keeps I.bk) hm (by rw [I.ok.blt]; exact h1.keeps I.bk) ((h2 x hn).trans hv) h) hd
theorem pe_bltn {x : Str} {v : V} {u : Value} {pos : Pos} (hg : Gl X x) (hm : X.mg x = none) (hv : bootBuiltins x = some u) (r : RelV v u) (hn : x ≠ "__name__" := by decide) (hd : (x == ("__debug__" : Str)) = false := by decide) : PE X (.Name x pos) (tC v) :=
  fun _ _ _ H _ I h => ld_blt I hg hm hv ⟨v, H, I, r, h⟩ hn hd

variable {a b : Expr} {ta tb : TE} {pos : Pos}
/-- a comparison as a value, as a test -/
def tB (t : TE) : TT := fun σ H Q => t σ H fun x H1 => ∃ c, x = .bl c ∧ Q c H1
/-- an expression whose value is a bool, as a test -/
theorem pt_val {e : Expr} {t : TE} (h : PE X e t) (he : ∀ whole, isTrue e X.env whole = (do let v ← whole; standAt e.pos; holding [v] (truthy v)) := by intro _; rfl) : PT X e (tB t) := by
  intro pins s σ H Q I hw
  refine isTrue_plain (thn (h pins s σ H _ I hw) fun v s1 ⟨x, H1, I1, r1, q1⟩ => ?_) (he _)
  obtain ⟨d, rfl, q⟩ := q1
  cases r1
  exact wpAny_truthy_bool ⟨H1, I1, q⟩

/-! ### and, or, not -/
variable {tA tB' : TT} {rest : List Expr}
def tAnd (t u : TT) : TT := fun σ H Q => t σ H fun c H1 => if c = true then u σ H1 Q else Q false H1
def tOr (t u : TT) : TT := fun σ H Q => t σ H fun c H1 => if c = true then Q true H1 else u σ H1 Q
def tNot (t : TT) : TT := fun σ H Q => t σ H fun c H1 => Q (!c) H1
theorem pw_and1 (ha : PT X a tA) : PW X (.BoolOp .And [a] pos) tA := by
  intro wh pins s σ H Q I h
  refine isTrue_and (thn (ha pins s σ H Q I h) fun c s1 e => ?_)
  cases c with
  | true => exact isTrue_and_nil e
  | false => exact e
theorem pw_or1 (ha : PT X a tA) : PW X (.BoolOp .Or [a] pos) tA := by
  intro wh pins s σ H Q I h
  refine isTrue_or (thn (ha pins s σ H Q I h) fun c s1 e => ?_)
  cases c with
  | false => exact isTrue_or_nil e
  | true => exact e
theorem pw_and (ha : PT X a tA) (hb : PW X (.BoolOp .And (b :: rest) pos) tB') : PW X (.BoolOp .And (a :: b :: rest) pos) (tAnd tA tB') := by
  intro wh pins s σ H Q I h
  refine isTrue_and (thn (ha pins s σ H _ I h) fun c s1 ⟨H1, I1, q1⟩ => ?_)
  cases c with
  | true => exact hb wh pins s1 σ H1 Q I1 q1
  | false => exact ⟨H1, I1, q1⟩
theorem pw_or (ha : PT X a tA) (hb : PW X (.BoolOp .Or (b :: rest) pos) tB') : PW X (.BoolOp .Or (a :: b :: rest) pos) (tOr tA tB') := by
  intro wh pins s σ H Q I h
  refine isTrue_or (thn (ha pins s σ H _ I h) fun c s1 ⟨H1, I1, q1⟩ => ?_)
  cases c with
  | true => exact ⟨H1, I1, q1⟩
  | false => exact hb wh pins s1 σ H1 Q I1 q1
theorem pt_not (ha : PT X a tA) : PT X (.UnaryOp .Not a pos) (tNot tA) := by
  intro pins s σ H Q I h
  exact isTrue_not (ha pins s σ H (fun c H1 => Q (!c) H1) I h)
/-- .. as values (bools) -/
def tAndV (ta tb : TE) : TE := fun σ H Q => ta σ H fun x H1 => ∃ c, x = .bl c ∧ if c = true then tb σ H1 Q else Q (.bl false) H1
def tOrV (ta tb : TE) : TE := fun σ H Q => ta σ H fun x H1 => ∃ c, x = .bl c ∧ if c = true then Q (.bl true) H1 else tb σ H1 Q
def tNotV (ta : TE) : TE := fun σ H Q => ta σ H fun x H1 => ∃ c, x = .bl c ∧ Q (.bl (!c)) H1
theorem pe_one {op} {t : TE} (h : PE X a t) : PE X (.BoolOp op [a] pos) t := fun pins s σ H Q I hw => BoolOp_one (h pins s σ H Q I hw)
theorem pe_and (ha : PE X a ta) (hb : PE X (.BoolOp .And (b :: rest) pos) tb) : PE X (.BoolOp .And (a :: b :: rest) pos) (tAndV ta tb) := by
  intro pins s σ H Q I h
  refine BoolOp_and (thn (ha pins s σ H _ I h) fun v s1 ⟨x, H1, I1, r1, q1⟩ => ?_)
  obtain ⟨c, rfl, q1⟩ := q1
  cases r1
  refine wpAny_truthy_bool ?_
  cases c with
  | true => exact hb pins s1 σ H1 Q I1 q1
  | false => exact ⟨.bl false, H1, I1, rfl, q1⟩
theorem pe_or (ha : PE X a ta) (hb : PE X (.BoolOp .Or (b :: rest) pos) tb) : PE X (.BoolOp .Or (a :: b :: rest) pos) (tOrV ta tb) := by
  intro pins s σ H Q I h
  refine BoolOp_or (thn (ha pins s σ H _ I h) fun v s1 ⟨x, H1, I1, r1, q1⟩ => ?_)
  obtain ⟨c, rfl, q1⟩ := q1
  cases r1
  refine wpAny_truthy_bool ?_
  cases c with
  | false => exact hb pins s1 σ H1 Q I1 q1
  | true => exact ⟨.bl true, H1, I1, rfl, q1⟩
theorem pe_not (ha : PE X a ta) : PE X (.UnaryOp .Not a pos) (tNotV ta) := by
  intro pins s σ H Q I h
  refine UnaryOp_ (thn (ha pins s σ H _ I h) fun v s1 ⟨x, H1, I1, r1, q1⟩ => ?_)
  obtain ⟨c, rfl, q1⟩ := q1
  cases r1
  exact not_of (wpAny_truthy_bool ⟨.bl (!c), H1, I1, rfl, q1⟩)
/-- a if t else b -/
def tIf (t : TT) (ta tb : TE) : TE := fun σ H Q => t σ H fun c H1 => if c = true then ta σ H1 Q else tb σ H1 Q
theorem pe_ifExp {c : Expr} (hc : PT X c tA) (ha : PE X a ta) (hb : PE X b tb) : PE X (.IfExp c a b pos) (tIf tA ta tb) := by
  intro pins s σ H Q I h
  refine wpAny_IfExp (thn (hc pins s σ H _ I h) fun d s1 ⟨H1, I1, q1⟩ => ?_)
  cases d with
  | true => exact ha pins s1 σ H1 Q I1 q1
  | false => exact hb pins s1 σ H1 Q I1 q1
end
end L2

namespace L2
open PySem PySem.Spec PyProof.Rows

/-! ### a list, a tuple that is read: tracked, frozen, or an object of the module -/
def SqL (K : PySem.W.Frag) (H : Hp) (a : Addr) (xs : List V) : Prop :=
  Rd H a (.lst xs) ∨
    ∃ (o : Obj) (its : Array Value) (n : Nat), K.lookup a = some o ∧ o.cls = .type "list" ∧ o.dict = none ∧ o.data = .seq its n ∧ its.size ≤ sizeLine ∧ Vals xs its.toList
def SqT (K : PySem.W.Frag) (H : Hp) (a : Addr) (xs : List V) : Prop :=
  Rd H a (.tup xs) ∨
    ∃ (o : Obj) (its : Array Value) (n : Nat), K.lookup a = some o ∧ o.cls = .type "tuple" ∧ o.data = .seq its n ∧ its.size ≤ sizeLine ∧ Vals xs its.toList
def absV : Value → Option V
  | .none => some .non
  | .bool b => some (.bl b)
  | .int i _ => some (.int i)
  | .str x _ => some (.str x)
  | .bytes b _ => some (.byt b)
  | .float b _ => some (.flt b)
  | .ref a => some (.ref a)
  | .type n => some (.ty n)
  | _ => none
theorem RelV.abs {x : V} {u : Value} (r : RelV x u) : absV u = some x := by
  cases x with
  | non => cases r; rfl
  | bl _ => cases r; rfl
  | int _ => obtain ⟨t, rfl⟩ := r; rfl
  | str _ => obtain ⟨t, rfl⟩ := r; rfl
  | byt _ => obtain ⟨t, rfl⟩ := r; rfl
  | flt _ => obtain ⟨t, rfl⟩ := r; rfl
  | ref _ => cases r; rfl
  | ty _ => cases r; rfl
theorem RelV.inj {x y : V} {u : Value} (r : RelV x u) (q : RelV y u) : x = y := Option.some.inj (r.abs.symm.trans q.abs)
theorem Vals.inj : ∀ {xs ys : List V} {us : List Value}, Vals xs us → Vals ys us → xs = ys
  | _, _, _, .nil, .nil => rfl
  | _, _, _, .cons r t, .cons r' t' => by rw [r.inj r', Vals.inj t t']
section
variable {X : Cx} {pins : List (Addr × Obj)} {σ : St} {H : Hp} {s : Shared} {a : Addr} {xs ys : List V}
theorem SqL.of {K : PySem.W.Frag} (h : H a = some (.lst xs)) : SqL K H a xs := .inl (.inl h)
theorem SqT.of {K : PySem.W.Frag} (h : H a = some (.tup xs)) : SqT K H a xs := .inl (.inl h)
theorem Inv.list (I : Inv X pins σ H s) (h : SqL X.K H a xs) : ∃ its : List Value, Vals xs its ∧ PlainL s.heap a its.toArray ∧ xs.length ≤ sizeLine := by
  rcases h with h | ⟨o, its, n, hk, hc, hd, hs, hz, r⟩
  · obtain ⟨z, its, n, r, e⟩ := h.ok I.hok
    exact ⟨its, r, ⟨_, n, e, rfl, rfl, rfl⟩, z⟩
  · refine ⟨its.toList, r, ⟨o, n, I.kIn a o hk, hc, hd, by simpa using hs⟩, ?_⟩
    have e := r.length
    simp only [Array.length_toList] at e
    omega
theorem Inv.tuple (I : Inv X pins σ H s) (h : SqT X.K H a xs) : ∃ its : List Value, Vals xs its ∧ IsTup s.heap a its.toArray ∧ xs.length ≤ sizeLine := by
  rcases h with h | ⟨o, its, n, hk, hc, hs, hz, r⟩
  · obtain ⟨z, its, r, p⟩ := h.ok I.hok
    exact ⟨its, r, p, z⟩
  · refine ⟨its.toList, r, ⟨o, I.kIn a o hk, hc, n, by simpa using hs⟩, ?_⟩
    have e := r.length
    simp only [Array.length_toList] at e
    omega
theorem Inv.list_inj (I : Inv X pins σ H s) (h : SqL X.K H a xs) (h' : SqL X.K H a ys) : xs = ys := by
  obtain ⟨its, r, ⟨o, n, e, _, _, d⟩, _⟩ := I.list h
  obtain ⟨its', r', ⟨o', n', e', _, _, d'⟩, _⟩ := I.list h'
  rw [e] at e'; cases e'
  rw [d] at d'
  injection d' with d1 _
  have : its = its' := by simpa using congrArg Array.toList d1
  subst this
  exact r.inj r'
theorem Inv.tuple_inj (I : Inv X pins σ H s) (h : SqT X.K H a xs) (h' : SqT X.K H a ys) : xs = ys := by
  obtain ⟨its, r, ⟨o, e, _, n, d⟩, _⟩ := I.tuple h
  obtain ⟨its', r', ⟨o', e', _, n', d'⟩, _⟩ := I.tuple h'
  rw [e] at e'; cases e'
  rw [d] at d'
  injection d' with d1 _
  have : its = its' := by simpa using congrArg Array.toList d1
  subst this
  exact r.inj r'
end

/-! ### another wish about exceptions -/
abbrev Cx.wish (X : Cx) (E : Value → Shared → Prop) : Cx := { X with xe := E }
/-- no exception leaves -/
abbrev Cx.nox (X : Cx) : Cx := X.wish fun _ _ => False
theorem Cx.Ok.wish {X : Cx} (ok : X.Ok) (E : Value → Shared → Prop) : (X.wish E).Ok :=
  ⟨ok.mod, ok.kind, ok.glob, ok.blt, ok.above, ok.inj, ok.has, ok.cab, ok.hd, ok.frames, ok.stk, ok.exf, ok.bs, ok.bsz, ok.noex, ok.exfs, ok.funs, ok.frf⟩
theorem Cx.Ok.unwish {X : Cx} {E : Value → Shared → Prop} (ok : (X.wish E).Ok) : X.Ok :=
  ⟨ok.mod, ok.kind, ok.glob, ok.blt, ok.above, ok.inj, ok.has, ok.cab, ok.hd, ok.frames, ok.stk, ok.exf, ok.bs, ok.bsz, ok.noex, ok.exfs, ok.funs, ok.frf⟩
section
variable {X : Cx} {pins : List (Addr × Obj)} {σ : St} {H : Hp} {s : Shared} {E : Value → Shared → Prop}
theorem Inv.wish (I : Inv X pins σ H s) (E : Value → Shared → Prop) : Inv (X.wish E) pins σ H s := ⟨I.ok.wish E, I.os, I.bare, I.base, I.loc, I.cell, I.free, I.freeC, I.pin, I.hok, I.len⟩
theorem Inv.unwish (I : Inv (X.wish E) pins σ H s) : Inv X pins σ H s := ⟨I.ok.unwish, I.os, I.bare, I.base, I.loc, I.cell, I.free, I.freeC, I.pin, I.hok, I.len⟩
theorem SP.unwish {D : Ends} {f : Flow} {s' : Shared} (h : SP (X.wish E) pins D f s') : SP X pins D f s' := by
  cases f with
  | next => obtain ⟨σ', H', I, q⟩ := h; exact ⟨σ', H', I.unwish, q⟩
  | brk => obtain ⟨σ', H', I, q⟩ := h; exact ⟨σ', H', I.unwish, q⟩
  | cont => obtain ⟨σ', H', I, q⟩ := h; exact ⟨σ', H', I.unwish, q⟩
  | ret u => obtain ⟨v, σ', H', I, r, q⟩ := h; exact ⟨v, σ', H', I.unwish, r, q⟩
theorem PE.nox {e : Expr} {t : TE} (h : PE X.nox e t) : PE X e t := fun pins s σ H Q I hw =>
  wpAny_mono (h pins s σ H Q (I.wish _) hw) (fun _ _ ⟨v, H', I', r, q⟩ => ⟨v, H', I'.unwish, r, q⟩) fun _ _ z => False.elim z
theorem PT.nox {e : Expr} {t : TT} (h : PT X.nox e t) : PT X e t := fun pins s σ H Q I hw =>
  wpAny_mono (h pins s σ H Q (I.wish _) hw) (fun _ _ ⟨H', I', q⟩ => ⟨H', I'.unwish, q⟩) fun _ _ z => False.elim z
theorem PSs.nox {st : List Stmt} {t : TS} (h : PSs X.nox st t) : PSs X st t := fun pins s σ H D I hw =>
  wpAny_mono (h pins s σ H D (I.wish _) hw) (fun _ _ q => q.unwish) fun _ _ z => False.elim z
end

/-! ### blocks and small statements -/
section
variable {X : Cx} {st : Stmt} {rest : List Stmt} {t u : TS} {e : Expr} {te : TE} {pos : Pos}
def tNext : TS := fun D σ H => D.nx σ H
def tSeq (t u : TS) : TS := fun D σ H => t { D with nx := u D } σ H
theorem pss_nil : PSs X [] tNext := fun _ _ σ H _ I h => wpAny_execs_nil ⟨σ, H, I, h⟩
theorem pss_cons (h1 : PS X st t) (h2 : PSs X rest u) : PSs X (st :: rest) (tSeq t u) := by
  intro pins s σ H D I h
  refine wpAny_execs_cons (thn (h1 pins s σ H { D with nx := u D } I h) fun f s1 q => ?_)
  cases f with
  | next =>
    obtain ⟨σ', H', I', q⟩ := q
    exact h2 pins s1 σ' H' D I' q
  | ret v => exact q
  | brk => exact q
  | cont => exact q
theorem pss_one (h1 : PS X st t) : PSs X [st] t := by
  intro pins s σ H D I h
  refine wpAny_execs_cons (thn (h1 pins s σ H D I h) fun f s1 q => ?_)
  cases f with
  | next => exact wpAny_execs_nil q
  | ret v => exact q
  | brk => exact q
  | cont => exact q
/-- in a def's body nothing is shown -/
theorem Inv.quiet {pins : List (Addr × Obj)} {σ : St} {H : Hp} {s : Shared} (I : Inv X pins σ H s) : interactive X.env = false := by simp [interactive, I.ok.kind]
/-- an expression whose value is dropped -/
def tDrop (te : TE) : TS := fun D σ H => te σ H fun _ H1 => D.nx σ H1
theorem ps_expr (he : PE X e te) (hs : swapsWith e none pos.line X.env = pure false := by rfl) : PS X (.Expr e pos) (tDrop te) := by
  intro pins s σ H D I h
  exact wpAny_Expr_any (thn (he pins s σ H _ I h) fun v s1 ⟨x, H1, I1, r1, q1⟩ => ⟨σ, H1, I1, q1⟩) I.quiet hs
def tRet (te : TE) : TS := fun D σ H => te σ H D.rt
theorem ps_ret (he : PE X e te) : PS X (.Return (some e) pos) (tRet te) := by
  intro pins s σ H D I h
  exact wpAny_Return_some (thn (he pins s σ H _ I h) fun v s1 ⟨x, H1, I1, r1, q1⟩ => ⟨x, σ, H1, I1, r1, q1⟩)
def tIfS (c : TT) (t u : TS) : TS := fun D σ H => c σ H fun b H1 => if b = true then t D σ H1 else u D σ H1
theorem ps_if {c : Expr} {a b : List Stmt} {tc : TT} (hc : PT X c tc) (ha : PSs X a t) (hb : PSs X b u) : PS X (.If c a b pos) (tIfS tc t u) := by
  intro pins s σ H D I h
  refine wpAny_If (thn (hc pins s σ H _ I h) fun d s1 ⟨H1, I1, q1⟩ => ?_)
  cases d with
  | true => exact ha pins s1 σ H1 D I1 q1
  | false => exact hb pins s1 σ H1 D I1 q1
end

/-! ### targets -/
abbrev TG := V → St → Hp → (St → Hp → Prop) → Prop
abbrev TGs := List V → St → Hp → (St → Hp → Prop) → Prop
def PG (X : Cx) (target : Expr) (t : TG) : Prop :=
  ∀ (pins : List (Addr × Obj)) (s : Shared) (σ : St) (H : Hp) (v : V) (u : Value) (Q : St → Hp → Prop), Inv X pins σ H s → RelV v u → t v σ H Q →
    wpAny (model X.prog X.w) X.A (assign target X.env u) (fun _ s' => ∃ σ' H', Inv X pins σ' H' s' ∧ Q σ' H') X.xe s
/-- several targets, one after another -/
def PGs (X : Cx) (ts : List Expr) (t : TGs) : Prop :=
  ∀ (pins : List (Addr × Obj)) (s : Shared) (σ : St) (H : Hp) (vs : List V) (us : List Value) (Q : St → Hp → Prop), Inv X pins σ H s → Vals vs us → t vs σ H Q →
    wpAny (model X.prog X.w) X.A (assignInOrder ((assignEach ts X.env).map (·.2)) us) (fun _ s' => ∃ σ' H', Inv X pins σ' H' s' ∧ Q σ' H') X.xe s
section
variable {X : Cx} {pos : Pos}
def gName (i : Nat) : TG := fun v σ H Q => Q (σ.set i (some v)) H
theorem pg_name {i : Nat} {x : Str} (hN : X.N.Nodup) (hi : X.N[i]? = some x) (hx : Loc X.env.scope x) (hf : X.fn x = true ∨ X.env.scope.names.lookup x = some .local := by first | exact .inl rfl | exact .inr rfl | assumption) : PG X (.Name x pos) (gName i) := by
  intro pins s σ H v u Q I r h
  exact wpAny_assign_Name (store_ok I hN hi hx r (fun s' I' => ⟨_, H, I', h⟩) hf)
def gNil : TGs := fun vs σ H Q => vs = [] ∧ Q σ H
def gCons (t : TG) (u : TGs) : TGs := fun vs σ H Q => ∃ v r, vs = v :: r ∧ t v σ H fun σ' H' => u r σ' H' Q
theorem pgs_nil : PGs X [] gNil := by
  intro pins s σ H vs us Q I r h
  obtain ⟨e, h⟩ := h
  subst e
  cases r
  exact assignInOrder_nil ⟨σ, H, I, h⟩
theorem pgs_cons {e : Expr} {es : List Expr} {t : TG} {u : TGs} (h1 : PG X e t) (h2 : PGs X es u)
    (hs : (assignEach (e :: es) X.env).map (·.2) = assign e X.env :: (assignEach es X.env).map (·.2) := by rfl) : PGs X (e :: es) (gCons t u) := by
  intro pins s σ H vs us Q I r h
  obtain ⟨v, vr, e1, h⟩ := h
  subst e1
  cases r with
  | cons r rr =>
    rw [hs]
    refine assignInOrder_cons (thn (h1 pins s σ H _ _ _ I r h) fun _ s1 ⟨σ1, H1, I1, q1⟩ => ?_)
    exact h2 pins s1 σ1 H1 _ _ Q I1 rr q1
/-- (a, b, ..) = a tuple of that length -/
def gTup (K : PySem.W.Frag) (n : Nat) (t : TGs) : TG := fun v σ H Q => ∃ a xs, v = .ref a ∧ SqT K H a xs ∧ xs.length = n ∧ t xs σ H Q
theorem pg_tup {es : List Expr} {k : Nat} {t : TGs} {n : Nat} (hc : X.calm = true) (h : PGs X es t)
    (hn : (assignEach es X.env).length = n := by rfl) (hst : (assignEach es X.env).findIdx? (·.1) = none := by rfl) : PG X (.Tuple es k pos) (gTup X.K n t) := by
  intro pins s σ H v u Q I r hw
  obtain ⟨a, xs, e1, hq, hl, hw⟩ := hw
  subst e1
  cases r
  obtain ⟨its, rv, ht, hz⟩ := I.tuple hq
  refine assign_Tuple_tuple (I.ok.hd hc) ht (by simp [hn, ← hl, rv.length]) hst fun h' hx => ?_
  have I1 : Inv X pins σ H { s with heap := h' } := I.kept (t' := s.toks) fun b o e => hx b o (Nat.ne_of_lt (Heap.lt_size e)) e
  exact h pins _ σ H xs _ Q I1 (by simpa using rv) hw
/-- target = value -/
def tAsg (te : TE) (g : TG) : TS := fun D σ H => te σ H fun x H1 => g x σ H1 D.nx
/-- name = value -/
theorem ps_set {i : Nat} {x : Str} {e : Expr} {te : TE} {pos' : Pos} (hN : X.N.Nodup) (hi : X.N[i]? = some x) (hx : Loc X.env.scope x) (he : PE X e te) (hs : swapsWith e (some (.Name x pos')) pos.line X.env = pure false := by rfl) (hf : X.fn x = true ∨ X.env.scope.names.lookup x = some .local := by first | exact .inl rfl | exact .inr rfl | assumption) :
    PS X (.Assign [.Name x pos'] e pos) (tAsg te (gName i)) := by
  intro pins s σ H D I h
  refine wpAny_Assign_Name (thn (he pins s σ H _ I h) fun v s1 ⟨y, H1, I1, r1, q1⟩ => ?_) hs
  exact store_ok I1 hN hi hx r1 (fun s2 I2 => ⟨_, H1, I2, q1⟩) hf
end

/-! ### while -/
section
variable {X : Cx} {pos : Pos}
/-- the invariant W with its measure -/
def tWhile (c : TT) (tb : TS) : TS := fun D σ H => ∃ W : Nat → St → Hp → Prop, (∃ m, W m σ H) ∧ ∀ m σ H, W m σ H →
  c σ H fun b H1 => if b = true then ∃ N : St → Hp → Prop, (∀ σ' H', N σ' H' → ∃ m', m' < m ∧ W m' σ' H') ∧ tb { D with nx := N, ct := N, bk := D.nx } σ H1 else D.nx σ H1
theorem ps_while {c : Expr} {body : List Stmt} {tc : TT} {tb : TS} (hp : PassesOwn (model X.prog X.w) X.A X.env X.xe) (hc : PT X c tc) (hb : PSs X body tb) : PS X (.While c body [] pos) (tWhile tc tb) := by
  intro pins s σ H D I h
  obtain ⟨W, ⟨m0, w0⟩, turn⟩ := h
  refine wpAny_While (codeAny_whileLoop (fun n s' => ∃ σ' H', Inv X pins σ' H' s' ∧ W n σ' H') ?_ m0 ⟨σ, H, I, w0⟩)
  rintro n s1 ⟨σ1, H1, I1, w1⟩
  refine wpAny_passesOwn hp (thn (hc pins s1 σ1 H1 _ I1 (turn n σ1 H1 w1)) fun b s2 ⟨H2, I2, q2⟩ => ?_)
  cases b with
  | true =>
    obtain ⟨N, hN, q2⟩ := q2
    rw [if_pos rfl]
    refine wpAny_passesOwn hp (thn (hb pins s2 σ1 H2 _ I2 q2) fun f s3 q3 => ?_)
    cases f with
    | next =>
      obtain ⟨σ3, H3, I3, n3⟩ := q3
      obtain ⟨m', hm, w3⟩ := hN σ3 H3 n3
      exact ⟨m', hm, σ3, H3, I3, w3⟩
    | cont =>
      obtain ⟨σ3, H3, I3, n3⟩ := q3
      obtain ⟨m', hm, w3⟩ := hN σ3 H3 n3
      exact ⟨m', hm, σ3, H3, I3, w3⟩
    | brk => exact q3
    | ret v => exact q3
  | false =>
    rw [if_neg Bool.false_ne_true]
    exact wpAny_execs_nil ⟨σ1, H2, I2, q2⟩
end

/-! ### what a loop or a comprehension walks -/
/-- at turn i: it yields x (the heap may grow), or it stops -/
structure It where
  go : Nat → Hp → Prop
  yld : Nat → Hp → V → Hp → Prop
  stop : Nat → Hp → Prop
/-- the iterator's own objects may turn: they are not the frame's, not pinned, younger than the entry (or a comprehension's own) -/
def FpOk (X : Cx) (pins : List (Addr × Obj)) (H : Hp) (b : Addr) : Prop :=
  H b = none ∧ b ≠ X.env.locals ∧ b ∉ X.fs ∧ (b ∈ X.ex ∨ X.s₀.heap.objs.size ≤ b) ∧ (∀ x c, X.env.cells.lookup x = some c → c ≠ b) ∧ ∀ p ∈ X.pn ++ pins, p.1 ≠ b
theorem Inv.fpOk {X : Cx} {pins : List (Addr × Obj)} {σ : St} {H H' : Hp} {s : Shared} {b : Addr} (I : Inv X pins σ H s) (hb : s.heap.objs.size ≤ b) (hn : H' b = none) : FpOk X pins H' b := by
  refine ⟨hn, Nat.ne_of_gt (Nat.lt_of_lt_of_le I.lt hb), I.nofs hb, .inr (Nat.le_trans I.sz hb), fun x c e z => ?_, fun p hp z => ?_⟩
  · obtain ⟨v, q⟩ := I.cell x c e
    exact absurd (Nat.lt_of_lt_of_le q.lt (by rw [z]; exact hb)) (Nat.lt_irrefl _)
  · exact absurd (Nat.lt_of_lt_of_le (Heap.lt_size (I.pin p hp).1) (by rw [z]; exact hb)) (Nat.lt_irrefl _)
structure Turn (P : Program) (w : World) (K : PySem.W.Frag) (tg : Expr) (J : It) (fp : List Addr) (it : Addr) (tn : Nat → Heap → Prop) : Prop where
  mem : it ∈ fp
  obj : ∀ i h, tn i h → ∀ b ∈ fp, ∃ o, h.get? b = some o ∧ ∀ v, o.data ≠ .cell v
  keep : ∀ i h h', tn i h → (∀ b ∈ fp, ∀ o, h.get? b = some o → h'.get? b = some o) → tn i h'
  item : ∀ (X : Cx), X.prog = P → X.w = w → X.K = K → X.calm = true → ∀ (i : Nat) (pins : List (Addr × Obj)) (s : Shared) (σ : St) (H : Hp) (E : Value → Shared → Prop), Inv X pins σ H s → (∀ b ∈ fp, FpOk X pins H b) → tn i s.heap → J.go i H →
    wpAny (model P w) X.A (pyNext (.ref it)) (fun r s1 => ∃ u, r = some u ∧
      wpAny (model P w) X.A (letOwnedTupleGo tg (.ref it) u) (fun _ s2 => ∃ x H', Inv X pins σ H' s2 ∧ RelV x u ∧ J.yld i H x H' ∧ tn (i + 1) s2.heap ∧ ∀ b ∈ fp, H' b = none) E s1) E s
  done : ∀ (X : Cx), X.prog = P → X.w = w → X.K = K → X.calm = true → ∀ (i : Nat) (pins : List (Addr × Obj)) (s : Shared) (σ : St) (H : Hp) (E : Value → Shared → Prop), Inv X pins σ H s → (∀ b ∈ fp, FpOk X pins H b) → tn i s.heap → J.stop i H →
    wpAny (model P w) X.A (pyNext (.ref it)) (fun r s1 => r = none ∧ Inv X pins σ H s1) E s
  self : ∀ (A : Around) (i : Nat) (s : Shared) (Q : Value → Shared → Prop) (E : Value → Shared → Prop), tn i s.heap → Q (.ref it) s → wpAny (model P w) A (pyIter (.ref it)) Q E s
abbrev TI := St → Hp → (It → Hp → Prop) → Prop
/-- an iterator has come -/
def PIE (X : Cx) (pins : List (Addr × Obj)) (σ : St) (tg : Expr) (R : It → Hp → Prop) (itv : Value) (s2 : Shared) : Prop :=
  ∃ (it : Addr) (fp : List Addr) (tn : Nat → Heap → Prop) (J : It) (H' : Hp), itv = .ref it ∧ Inv X pins σ H' s2 ∧ Turn X.prog X.w X.K tg J fp it tn ∧ tn 0 s2.heap ∧ (∀ b ∈ fp, FpOk X pins H' b) ∧ R J H'
def PI (X : Cx) (tg iter : Expr) (wi : TI) : Prop :=
  ∀ (pins : List (Addr × Obj)) (s : Shared) (σ : St) (H : Hp) (R : It → Hp → Prop), Inv X pins σ H s → wi σ H R →
    wpAny (model X.prog X.w) X.A (eval iter X.env) (fun v s1 => wpAny (model X.prog X.w) X.A (pyIter v) (PIE X pins σ tg R) X.xe s1) X.xe s

/-- the step ahead of the store is nothing for an iterator that keeps no tuple -/
theorem go_of {M : Model} {A : Around} {E : Value → Shared → Prop} {s : Shared} {tg : Expr} {it : Addr} {u : Value} {o : Obj} {n : String} {vs : Array Value} {Q : Unit → Shared → Prop} (ho : s.heap.get? it = some o) (hc : o.cls = .type n) (hd : o.data = .fields vs)
    (hn : ["enumerate", "zip", "dict_itemiterator", "dict_reverseitemiterator", "odict_iterator", "itertools.zip_longest", "itertools.pairwise"].contains n = false) (hQ : Q () s) : wpAny M A (letOwnedTupleGo tg (.ref it) u) Q E s := by
  unfold letOwnedTupleGo
  cases tg <;> first
    | exact wpAny_pure hQ
    | (cases u <;> first
        | exact wpAny_pure hQ
        | (refine wpAny_bind (wpAny_load ho ?_)
           rw [hc, hd]
           show wpAny M A (if (["enumerate", "zip", "dict_itemiterator", "dict_reverseitemiterator", "odict_iterator", "itertools.zip_longest", "itertools.pairwise"].contains n && vs[0]? == some (rawInt _)) = true then _ else _) Q E s
           rw [if_neg (by intro h; rw [hn, Bool.false_and] at h; cases h)]
           exact wpAny_pure hQ))

/-- the list at a, as it stands at each turn (a loop may append to it) -/
def Itl (K : PySem.W.Frag) (a : Addr) : It :=
  ⟨fun i H => ∃ xs x, SqL K H a xs ∧ xs[i]? = some x, fun i H x H' => H' = H ∧ ∀ xs, SqL K H a xs → xs[i]? = some x, fun i H => ∃ xs, SqL K H a xs ∧ xs.length ≤ i⟩
def Itt (K : PySem.W.Frag) (a : Addr) : It :=
  ⟨fun i H => ∃ xs x, SqT K H a xs ∧ xs[i]? = some x, fun i H x H' => H' = H ∧ ∀ xs, SqT K H a xs → xs[i]? = some x, fun i H => ∃ xs, SqT K H a xs ∧ xs.length ≤ i⟩
/-- lo, lo + 1, .. (n of them) -/
def Itr (lo : Int) (n : Nat) : It := ⟨fun i _ => i < n, fun i H x H' => H' = H ∧ x = .int (lo + i), fun i _ => n ≤ i⟩
theorem turn_list {P : Program} {w : World} {K : PySem.W.Frag} {tg : Expr} (a it : Addr) : Turn P w K tg (Itl K a) [it] it (fun i h => h.IsListIter it a i) where
  mem := by simp
  obj := fun i h st b hb => by
    have e : b = it := by simpa using hb
    subst e
    obtain ⟨o, e, c, d⟩ := st
    exact ⟨o, e, fun v z => by rw [d] at z; cases z⟩
  keep := fun i h h' st k => st.at fun o e => k it (by simp) o e
  item := by
    intro X hP hw hK hc i pins s σ H E I hf st hg
    subst hP hw hK
    obtain ⟨xs, x, hq, hx⟩ := hg
    obtain ⟨its, rv, p, hz⟩ := I.list hq
    obtain ⟨u, hu, ru⟩ := rv.get hx
    obtain ⟨f0, f1, f2, f3, f4, f5⟩ := hf it (by simp)
    refine wpAny_pyNext_list_item st p.isList (x := u) (by simpa using hu) fun h' st' sb => ?_
    have I1 : Inv X pins σ H { s with heap := h' } := I.turned (t' := s.toks) (fun b o hb e => (sb.2 b hb).trans e) f0 f1 f3 f4 f5
    obtain ⟨o, e, c, d⟩ := id st'
    exact ⟨u, rfl, go_of (s := { s with heap := h' }) e c d (by decide) ⟨x, H, I1, ru, ⟨rfl, fun ys hy => by rw [I.list_inj hy hq]; exact hx⟩, st', fun b hb => (hf b hb).1⟩⟩
  done := by
    intro X hP hw hK hc i pins s σ H E I hf st hg
    subst hP hw hK
    obtain ⟨xs, hq, hx⟩ := hg
    obtain ⟨its, rv, p, hz⟩ := I.list hq
    obtain ⟨f0, f1, f2, f3, f4, f5⟩ := hf it (by simp)
    have hl := rv.length
    exact wpAny_pyNext_list_end (I.ok.hd hc) st p.isList (by simp; omega) fun h' eb => ⟨rfl, I.turned (t' := s.toks) (fun b o hb e => eb b o hb e) f0 f1 f3 f4 f5⟩
  self := fun _ _ _ _ _ st h => wpAny_pyIter_listiter st h
theorem turn_tuple {P : Program} {w : World} {K : PySem.W.Frag} {tg : Expr} (a it : Addr) : Turn P w K tg (Itt K a) [it] it (fun i h => h.IsTupleIter it a i) where
  mem := by simp
  obj := fun i h st b hb => by
    have e : b = it := by simpa using hb
    subst e
    obtain ⟨o, e, c, d⟩ := st
    exact ⟨o, e, fun v z => by rw [d] at z; cases z⟩
  keep := fun i h h' st k => st.at fun o e => k it (by simp) o e
  item := by
    intro X hP hw hK hc i pins s σ H E I hf st hg
    subst hP hw hK
    obtain ⟨xs, x, hq, hx⟩ := hg
    obtain ⟨its, rv, p, hz⟩ := I.tuple hq
    obtain ⟨u, hu, ru⟩ := rv.get hx
    obtain ⟨f0, f1, f2, f3, f4, f5⟩ := hf it (by simp)
    refine wpAny_pyNext_tuple_item st (show s.heap.IsTuple a its.toArray from p) (x := u) (by simpa using hu) fun h' st' sb => ?_
    have I1 : Inv X pins σ H { s with heap := h' } := I.turned (t' := s.toks) (fun b o hb e => (sb.2 b hb).trans e) f0 f1 f3 f4 f5
    obtain ⟨o, e, c, d⟩ := id st'
    exact ⟨u, rfl, go_of (s := { s with heap := h' }) e c d (by decide) ⟨x, H, I1, ru, ⟨rfl, fun ys hy => by rw [I.tuple_inj hy hq]; exact hx⟩, st', fun b hb => (hf b hb).1⟩⟩
  done := by
    intro X hP hw hK hc i pins s σ H E I hf st hg
    subst hP hw hK
    obtain ⟨xs, hq, hx⟩ := hg
    obtain ⟨its, rv, p, hz⟩ := I.tuple hq
    obtain ⟨f0, f1, f2, f3, f4, f5⟩ := hf it (by simp)
    have hl := rv.length
    exact wpAny_pyNext_tuple_end (I.ok.hd hc) st (show s.heap.IsTuple a its.toArray from p) (by simp; omega) fun h' eb => ⟨rfl, I.turned (t' := s.toks) (fun b o hb e => eb b o hb e) f0 f1 f3 f4 f5⟩
  self := fun _ _ _ _ _ st h => wpAny_pyIter_tupleiter st h
theorem turn_range {P : Program} {w : World} {K : PySem.W.Frag} {tg : Expr} (it : Addr) (lo : Int) (n : Nat) : Turn P w K tg (Itr lo n) [it] it (fun i h => IsRangeIter h it (lo + (i : Nat) * 1) ((n : Int) - (i : Nat)) 1) where
  mem := by simp
  obj := fun i h st b hb => by
    have e : b = it := by simpa using hb
    subst e
    exact ⟨_, st, fun v z => by
      have z' : Data.fields _ = Data.cell v := z
      cases z'⟩
  keep := fun i h h' st k => k it (by simp) _ st
  item := by
    intro X hP hw hK hc i pins s σ H E I hf st hg
    subst hP hw hK
    obtain ⟨f0, f1, f2, f3, f4, f5⟩ := hf it (by simp)
    have W := Walks.range (prog := X.prog) (w := X.w) (I.ok.hd hc) it lo 1 n
    refine W.item i s _ _ hg st fun v h' tk hv st' kk => ?_
    obtain ⟨t, rfl⟩ := hv
    have I1 : Inv X pins σ H { s with heap := h', toks := tk } := I.turned (fun b o hb e => kk b o (by simpa using hb) e) f0 f1 f3 f4 f5
    refine ⟨_, rfl, go_of (s := { s with heap := h', toks := tk }) (n := "range_iterator") st' rfl rfl (by decide) ⟨.int (lo + i), H, I1, ⟨t, ?_⟩, ⟨rfl, rfl⟩, st', fun b hb => (hf b hb).1⟩⟩
    rw [Int.mul_one]
  done := by
    intro X hP hw hK hc i pins s σ H E I hf st hg
    subst hP hw hK
    obtain ⟨f0, f1, f2, f3, f4, f5⟩ := hf it (by simp)
    exact wpAny_pyNext_range_end (I.ok.hd hc) st (by have : n ≤ i := hg; omega) fun h' eb => ⟨rfl, I.turned (t' := s.toks) (fun b o hb e => eb b o hb e) f0 f1 f3 f4 f5⟩
  self := fun _ _ _ _ _ st h => wpAny_pyIter_rangeiter st h
end L2

namespace L2
open PySem PySem.Spec PyProof.Rows
section
variable {X : Cx} {tg : Expr}
def iList (K : PySem.W.Frag) (tl : TE) : TI := fun σ H R => tl σ H fun x H1 => ∃ a, x = .ref a ∧ (∃ xs, SqL K H1 a xs) ∧ R (Itl K a) H1
def iTup (K : PySem.W.Frag) (tl : TE) : TI := fun σ H R => tl σ H fun x H1 => ∃ a, x = .ref a ∧ (∃ xs, SqT K H1 a xs) ∧ R (Itt K a) H1
theorem pi_list {l : Expr} {tl : TE} (hl : PE X l tl) : PI X tg l (iList X.K tl) := by
  intro pins s σ H R I h
  refine thn (hl pins s σ H _ I h) fun v s1 ⟨x, H1, I1, r1, q1⟩ => ?_
  obtain ⟨a, e, ⟨xs, hq⟩, q⟩ := q1
  subst e
  cases r1
  obtain ⟨its, rv, p, hz⟩ := I1.list hq
  refine wpAny_pyIter_list p.isList ?_
  refine ⟨s1.heap.objs.size, [s1.heap.objs.size], _, _, H1, rfl, I1.kept (t' := s1.toks) fun b o e => Heap.get?_push_of_some _ e, turn_list a _, ⟨_, Heap.get?_push_size _ rfl, rfl, rfl⟩, fun b hb => ?_, q⟩
  have e : b = s1.heap.objs.size := by simpa using hb
  subst e
  exact I1.fpOk (Nat.le_refl _) (I1.hok.fresh (Nat.le_refl _))
theorem pi_tup {l : Expr} {tl : TE} (hl : PE X l tl) : PI X tg l (iTup X.K tl) := by
  intro pins s σ H R I h
  refine thn (hl pins s σ H _ I h) fun v s1 ⟨x, H1, I1, r1, q1⟩ => ?_
  obtain ⟨a, e, ⟨xs, hq⟩, q⟩ := q1
  subst e
  cases r1
  obtain ⟨its, rv, p, hz⟩ := I1.tuple hq
  refine wpAny_pyIter_tuple (show s1.heap.IsTuple a its.toArray from p) ?_
  refine ⟨s1.heap.objs.size, [s1.heap.objs.size], _, _, H1, rfl, I1.kept (t' := s1.toks) fun b o e => Heap.get?_push_of_some _ e, turn_tuple a _, ⟨_, Heap.get?_push_size _ rfl, rfl, rfl⟩, fun b hb => ?_, q⟩
  have e : b = s1.heap.objs.size := by simpa using hb
  subst e
  exact I1.fpOk (Nat.le_refl _) (I1.hok.fresh (Nat.le_refl _))
/-- a range object just made, walked -/
theorem range_it {pins : List (Addr × Obj)} {σ : St} {H : Hp} {s : Shared} {R : It → Hp → Prop} {E : Value → Shared → Prop} {lo hi : Int} {t u v : Tok} {tk : Nat} (I : Inv X pins σ H s) (h1 : -(2 ^ 62) ≤ lo) (h2 : lo < 2 ^ 62) (h3 : -(2 ^ 62) ≤ hi) (h4 : hi < 2 ^ 62)
    (q : R (Itr lo (hi - lo).toNat) H) : wpAny (model X.prog X.w) X.A (pyIter (.ref s.heap.objs.size)) (PIE X pins σ tg R) E { s with heap := s.heap.push { cls := .type "range", data := .fields #[.int lo t, .int hi u, .int 1 v] }, toks := tk } := by
  refine wpAny_pyIter_range (IsRange.new ..) (small_one h1 h2 h3 h4) ?_
  have I1 : Inv X pins σ H { s with heap := s.heap.push { cls := .type "range", data := .fields #[.int lo t, .int hi u, .int 1 v] }, toks := tk } := I.kept fun b o e => Heap.get?_push_of_some _ e
  refine ⟨(s.heap.push { cls := .type "range", data := .fields #[.int lo t, .int hi u, .int 1 v] }).objs.size, [(s.heap.push { cls := .type "range", data := .fields #[.int lo t, .int hi u, .int 1 v] }).objs.size], _, _, H, rfl,
    I1.kept (t' := tk) fun b o e => Heap.get?_push_of_some _ e, turn_range _ lo (hi - lo).toNat, ?_, fun b hb => ?_, q⟩
  · have e1 : lo + ((0 : Nat) : Int) * 1 = lo := by simp
    have e2 : (((hi - lo).toNat : Nat) : Int) - ((0 : Nat) : Int) = Builtin.Range.rangeSize lo hi 1 := by rw [rangeSize_one]; split <;> omega
    show IsRangeIter _ _ (lo + ((0 : Nat) : Int) * 1) ((((hi - lo).toNat : Nat) : Int) - ((0 : Nat) : Int)) 1
    rw [e1, e2]
    exact Heap.get?_push_size _ rfl
  · have e : b = (s.heap.push { cls := .type "range", data := .fields #[.int lo t, .int hi u, .int 1 v] }).objs.size := by simpa using hb
    subst e
    exact I1.fpOk (Nat.le_refl _) (I1.hok.fresh (Nat.le_refl _))
def iRng1 (ta : TA) : TI := fun σ H R => ta σ H fun vs H1 => ∃ j : Int, vs = [.int j] ∧ -(2 ^ 62) ≤ j ∧ j < 2 ^ 62 ∧ R (Itr 0 j.toNat) H1
theorem pi_range1 {a : Expr} {ta : TA} {p pos : Pos} (hg : Gl X "range") (hm : X.mg "range" = none) (ha : PA X [a] ta) (hs : starEach [a] X.env = [(false, eval a X.env)] := by rfl) : PI X tg (.Call (.Name "range" p) [a] [] pos) (iRng1 ta) := by
  intro pins s σ H R I h
  refine Call_ (ld_blt I hg hm boot_range (PyProof.Rows.callWith_type1 (thn (ha pos pins s σ H _ I h) fun us s1 ⟨vs, H1, I1, r1, q1⟩ => ?_) hs rfl))
  obtain ⟨j, e, q1, q2, q⟩ := q1
  subst e
  cases r1 with
  | cons r rr =>
    cases rr
    obtain ⟨t, rfl⟩ := r
    exact call_range_1 (range_it I1 (by omega) (by omega) q1 q2 (by simpa using q))
/-! ### for -/
/-- W: the invariant by the turn and a measure; N: what the body is to reach -/
def tFor (wi : TI) (g : TG) (tb : TS) : TS := fun D σ H => wi σ H fun J H1 => ∃ W : Nat → Nat → St → Hp → Prop, (∃ m, W 0 m σ H1) ∧ ∀ i m σ H, W i m σ H →
  (J.stop i H ∧ D.nx σ H) ∨ (J.go i H ∧ ∃ N : St → Hp → Prop, (∀ σ' H', N σ' H' → ∃ m', m' < m ∧ W (i + 1) m' σ' H') ∧ ∀ x H', J.yld i H x H' → g x σ H' fun σ2 H2 => tb { D with nx := N, ct := N, bk := D.nx } σ2 H2)
/-- the records at fp as they stand -/
def pinsAt (fp : List Addr) (h : Heap) : List (Addr × Obj) := fp.filterMap fun b => (h.get? b).map fun o => (b, o)
theorem mem_pinsAt {fp : List Addr} {h : Heap} {b : Addr} {o : Obj} (hb : b ∈ fp) (e : h.get? b = some o) : (b, o) ∈ pinsAt fp h := List.mem_filterMap.mpr ⟨b, hb, by rw [e]; rfl⟩
theorem of_pinsAt {fp : List Addr} {h : Heap} {p : Addr × Obj} (hp : p ∈ pinsAt fp h) : p.1 ∈ fp ∧ h.get? p.1 = some p.2 := by
  obtain ⟨b, hb, e⟩ := List.mem_filterMap.mp hp
  cases q : h.get? b with
  | none => rw [q] at e; cases e
  | some o =>
    rw [q] at e
    have e' : (b, o) = p := Option.some.inj e
    subst e'
    exact ⟨hb, q⟩
theorem Inv.pinned {pins : List (Addr × Obj)} {σ : St} {H : Hp} {s : Shared} {fp : List Addr} (I : Inv X pins σ H s) (hf : ∀ b ∈ fp, FpOk X pins H b) (ho : ∀ b ∈ fp, ∃ o, s.heap.get? b = some o ∧ ∀ v, o.data ≠ .cell v) : Inv X (pins ++ pinsAt fp s.heap) σ H s :=
  I.pins_of fun p hp => (List.mem_append.mp hp).elim (fun z => I.pin p (List.mem_append_right _ z)) fun z => by
    obtain ⟨hb, e⟩ := of_pinsAt z
    obtain ⟨f0, f1, f2, _⟩ := hf p.1 hb
    obtain ⟨o, e', d⟩ := ho p.1 hb
    rw [e] at e'; cases e'
    exact ⟨e, f0, f1, f2, d⟩
theorem Inv.unpinned {pins pl : List (Addr × Obj)} {σ : St} {H : Hp} {s : Shared} (I : Inv X (pins ++ pl) σ H s) : Inv X pins σ H s := I.pins_of fun p hp => I.pin p (List.mem_append_right _ (List.mem_append_left _ hp))
theorem ps_for {iter : Expr} {body : List Stmt} {wi : TI} {g : TG} {tb : TS} {pos : Pos} (hp : PassesOwn (model X.prog X.w) X.A X.env X.xe) (hc : X.calm = true) (hi : PI X tg iter wi) (hg : PG X tg g) (hb : PSs X body tb)
    (hs : ∀ x, foldedSetIterable iter X.env x = pure x := by intro _; rfl) : PS X (.For tg iter body [] pos) (tFor wi g tb) := by
  intro pins s σ H D I h
  refine wpAny_For (thn (hi pins s σ H _ I h) fun v s1 h1 => thn h1 fun itv s2 h2 => ?_) hs
  obtain ⟨it, fp, tn, J, H2, e, I2, T, st2, f2, W, ⟨m0, w0⟩, turn⟩ := h2
  subst e
  -- what stays true of the iterator's objects through the loop
  have stat : ∀ {H' : Hp}, (∀ b ∈ fp, H' b = none) → ∀ b ∈ fp, FpOk X pins H' b := fun hn b hb => ⟨hn b hb, (f2 b hb).2⟩
  refine codeAny_forLoop_any (fun n s' => ∃ i σ' H', Inv X pins σ' H' s' ∧ tn i s'.heap ∧ (∀ b ∈ fp, H' b = none) ∧ W i n σ' H') ?_ m0 ⟨0, σ, H2, I2, st2, fun b hb => (f2 b hb).1, w0⟩
  rintro n s3 ⟨i, σ3, H3, I3, st3, fr3, w3⟩
  rcases turn i n σ3 H3 w3 with ⟨stop, qn⟩ | ⟨go, N, hN, step⟩
  · refine wpAny_passesOwn hp (thn (T.done X rfl rfl rfl hc i pins s3 σ3 H3 X.xe I3 (stat fr3) st3 stop) fun r s4 ⟨hr, I4⟩ => ?_)
    subst hr
    exact wpAny_execs_nil ⟨σ3, H3, I4, qn⟩
  · refine wpAny_passesOwn hp (thn (T.item X rfl rfl rfl hc i pins s3 σ3 H3 X.xe I3 (stat fr3) st3 go) fun r s4 ⟨u, hr, h4⟩ => ?_)
    subst hr
    refine wpAny_passesOwn hp (thn h4 fun _ s5 ⟨x, H5, I5, r5, y5, st5, fr5⟩ => ?_)
    have I5' := I5.pinned (stat fr5) (T.obj _ _ st5)
    refine wpAny_passesOwn hp (thn (hg _ s5 σ3 H5 x u _ I5' r5 (step x H5 y5)) fun _ s6 ⟨σ6, H6, I6, q6⟩ => ?_)
    refine wpAny_passesOwn hp (thn (hb _ s6 σ6 H6 _ I6 q6) fun f s7 q7 => ?_)
    have again : ∀ {σ7 : St} {H7 : Hp}, Inv X (pins ++ pinsAt fp s5.heap) σ7 H7 s7 → N σ7 H7 → ∃ m, m < n ∧ ∃ i σ' H', Inv X pins σ' H' s7 ∧ tn i s7.heap ∧ (∀ b ∈ fp, H' b = none) ∧ W i m σ' H' := fun {σ7 H7} I7 n7 => by
      obtain ⟨m', hm, w7⟩ := hN σ7 H7 n7
      refine ⟨m', hm, i + 1, σ7, H7, I7.unpinned, T.keep _ _ _ st5 fun b hb o e => (I7.pin (b, o) (List.mem_append_right _ (List.mem_append_right _ (mem_pinsAt hb e)))).1, fun b hb => ?_, w7⟩
      obtain ⟨o, e, d⟩ := T.obj _ _ st5 b hb
      exact (I7.pin (b, o) (List.mem_append_right _ (List.mem_append_right _ (mem_pinsAt hb e)))).2.1
    cases f with
    | next => obtain ⟨σ7, H7, I7, n7⟩ := q7; exact again I7 n7
    | cont => obtain ⟨σ7, H7, I7, n7⟩ := q7; exact again I7 n7
    | brk => obtain ⟨σ7, H7, I7, q7⟩ := q7; exact ⟨σ7, H7, I7.unpinned, q7⟩
    | ret v => obtain ⟨x7, σ7, H7, I7, r7, q7⟩ := q7; exact ⟨x7, σ7, H7, I7.unpinned, r7, q7⟩
end

end L2

namespace L2
open PySem PySem.Spec PyProof.Rows

abbrev R2 := V → V → Hp → VK → Prop
/-- a two-place operation on values: f is binaryOp op, inplaceOp op or compareOp op -/
def OpR (X : Cx) (f : Value → Value → Sem Value) (r : R2) : Prop :=
  ∀ (pins : List (Addr × Obj)) (s : Shared) (σ : St) (H : Hp) (x y : V) (v u : Value) (Q : VK), Inv X pins σ H s → RelV x v → RelV y u → r x y H Q →
    wpAny (model X.prog X.w) X.A (f v u) (EP X pins σ Q) X.xe s
/-- a one-place operation -/
def UnR (X : Cx) (f : Value → Sem Value) (r : V → Hp → VK → Prop) : Prop :=
  ∀ (pins : List (Addr × Obj)) (s : Shared) (σ : St) (H : Hp) (x : V) (v : Value) (Q : VK), Inv X pins σ H s → RelV x v → r x H Q →
    wpAny (model X.prog X.w) X.A (f v) (EP X pins σ Q) X.xe s
/-- a call of a value that is known (a builtin, a type) with values -/
def CallR (X : Cx) (f : Value) (r : List V → Hp → VK → Prop) : Prop :=
  ∀ (pins : List (Addr × Obj)) (s : Shared) (σ : St) (H : Hp) (xs : List V) (us : List Value) (Q : VK), Inv X pins σ H s → Vals xs us → r xs H Q →
    wpAny (model X.prog X.w) X.A (call f us) (EP X pins σ Q) X.xe s
def tOp (r : R2) (ta tb : TE) : TE := fun σ H Q => ta σ H fun x H1 => tb σ H1 fun y H2 => r x y H2 Q
def tUn (r : V → Hp → VK → Prop) (ta : TE) : TE := fun σ H Q => ta σ H fun x H1 => r x H1 Q
/-- ints in, under C, and a value out -/
def rI (C : Int → Int → Prop) (g : Int → Int → V) : R2 := fun x y H Q => ∃ i j, x = .int i ∧ y = .int j ∧ C i j ∧ Q (g i j) H
def rI0 (g : Int → Int → V) : R2 := fun x y H Q => ∃ i j, x = .int i ∧ y = .int j ∧ Q (g i j) H
def rU (g : Int → V) : V → Hp → VK → Prop := fun x H Q => ∃ i, x = .int i ∧ Q (g i) H

section
variable {X : Cx} {a b c : Expr} {ta tb tc : TE} {pos : Pos}

theorem binT (ha : PE X a ta) (hb : PE X b tb) {pins : List (Addr × Obj)} {s : Shared} {σ : St} {H : Hp} {R : V → V → Hp → Prop} (I : Inv X pins σ H s)
    (h : ta σ H fun x H1 => tb σ H1 fun y H2 => R x y H2) {Q : Value → Shared → Prop} {f : Value → Value → Sem Value}
    (hf : ∀ v u s2 x y H2, Inv X pins σ H2 s2 → RelV x v → RelV y u → R x y H2 → wpAny (model X.prog X.w) X.A (f v u) Q X.xe s2) :
    wpAny (model X.prog X.w) X.A (eval a X.env) (fun v s₁ => wpAny (model X.prog X.w) X.A (eval b X.env) (fun u s₂ => wpAny (model X.prog X.w) X.A (f v u) Q X.xe s₂) X.xe s₁) X.xe s := by
  refine thn (ha pins s σ H _ I h) fun v s1 ⟨x, H1, I1, r1, q1⟩ => ?_
  refine thn (hb pins s1 σ H1 _ I1 q1) fun u s2 ⟨y, H2, I2, r2, q2⟩ => ?_
  exact hf v u s2 x y H2 I2 r1 r2 q2

theorem pe_op {op : Operator} {r : R2} (ho : OpR X (binaryOp op) r) (ha : PE X a ta) (hb : PE X b tb) : PE X (.BinOp a op b pos) (tOp r ta tb) := by
  intro pins s σ H Q I h
  exact wpAny_BinOp (binT ha hb I h fun v u s2 x y H2 I2 rx ry q => ho pins s2 σ H2 x y v u Q I2 rx ry q)
theorem pe_un {op : UnaryOp} {r : V → Hp → VK → Prop} (ho : UnR X (unaryOp op) r) (ha : PE X a ta) : PE X (.UnaryOp op a pos) (tUn r ta) := by
  intro pins s σ H Q I h
  exact UnaryOp_ (thn (ha pins s σ H _ I h) fun v s1 ⟨x, H1, I1, r1, q1⟩ => ho pins s1 σ H1 x v Q I1 r1 q1)
/-! ### ints -/
theorem opI {f : Value → Value → Sem Value} {C : Int → Int → Prop} {g : Int → Int → Int}
    (rule : ∀ (i j : Int) (t u : Tok) (s : Shared) (Q : Value → Shared → Prop) (E : Value → Shared → Prop), C i j → Q (.int (g i j) s.toks) { s with toks := s.toks + 1 } → wpAny (model X.prog X.w) X.A (f (.int i t) (.int j u)) Q E s) :
    OpR X f (rI C fun i j => .int (g i j)) := by
  intro pins s σ H x y v u Q I rx ry h
  obtain ⟨i, j, rfl, rfl, hc, q⟩ := h
  obtain ⟨t, rfl⟩ := rx
  obtain ⟨t', rfl⟩ := ry
  exact rule i j t t' s _ _ hc ⟨.int (g i j), H, I.tok _, ⟨_, rfl⟩, q⟩
theorem opI0 {f : Value → Value → Sem Value} {g : Int → Int → Int}
    (rule : ∀ (i j : Int) (t u : Tok) (s : Shared) (Q : Value → Shared → Prop) (E : Value → Shared → Prop), Q (.int (g i j) s.toks) { s with toks := s.toks + 1 } → wpAny (model X.prog X.w) X.A (f (.int i t) (.int j u)) Q E s) :
    OpR X f (rI0 fun i j => .int (g i j)) := by
  intro pins s σ H x y v u Q I rx ry h
  obtain ⟨i, j, rfl, rfl, q⟩ := h
  obtain ⟨t, rfl⟩ := rx
  obtain ⟨t', rfl⟩ := ry
  exact rule i j t t' s _ _ ⟨.int (g i j), H, I.tok _, ⟨_, rfl⟩, q⟩
theorem opB0 {f : Value → Value → Sem Value} {g : Int → Int → Bool}
    (rule : ∀ (i j : Int) (t u : Tok) (s : Shared) (Q : Value → Shared → Prop) (E : Value → Shared → Prop), Q (.bool (g i j)) s → wpAny (model X.prog X.w) X.A (f (.int i t) (.int j u)) Q E s) :
    OpR X f (rI0 fun i j => .bl (g i j)) := by
  intro pins s σ H x y v u Q I rx ry h
  obtain ⟨i, j, rfl, rfl, q⟩ := h
  obtain ⟨t, rfl⟩ := rx
  obtain ⟨t', rfl⟩ := ry
  exact rule i j t t' s _ _ ⟨.bl (g i j), H, I, rfl, q⟩

def CPow (i j : Int) : Prop := 0 ≤ j ∧ j ≤ 1000000 ∧ i.natAbs < 2 ^ 64
def CMul (i j : Int) : Prop := (-(2 ^ 64) < i ∧ i < 2 ^ 64) ∨ (-(2 ^ 64) < j ∧ j < 2 ^ 64)
theorem CMul.ok {i j : Int} (h : CMul i j) : IntMulOk i j := by
  rcases h with ⟨h1, h2⟩ | ⟨h1, h2⟩
  · exact .of_left (intBits_le_64 h1 h2)
  · exact .of_right (intBits_le_64 h1 h2)
theorem op_add : OpR X (binaryOp .Add) (rI0 fun i j => .int (i + j)) := opI0 fun _ _ _ _ _ _ _ q => add_int q
/-- % by a positive divisor of any size -/
theorem op_mod : OpR X (binaryOp .Mod) (rI (fun _ j => 0 < j) fun i j => .int (i % j)) := opI fun i j _ _ _ _ _ hc q => by
  have h1 : (0 : Int) < j := hc
  exact mod_int' (by omega) (by rw [Int.fmod_eq_emod_of_nonneg i (by omega)]; exact q)
theorem op_pow : OpR X (binaryOp .Pow) (rI CPow fun i j => .int (i ^ j.toNat)) := opI fun _ _ _ _ _ _ _ hc q => pow_int_small hc.1 hc.2.1 hc.2.2 q
theorem unI {f : Value → Sem Value} {g : Int → Int}
    (rule : ∀ (i : Int) (t : Tok) (s : Shared) (Q : Value → Shared → Prop) (E : Value → Shared → Prop), Q (.int (g i) s.toks) { s with toks := s.toks + 1 } → wpAny (model X.prog X.w) X.A (f (.int i t)) Q E s) :
    UnR X f (rU fun i => .int (g i)) := by
  intro pins s σ H x v Q I rx h
  obtain ⟨i, rfl, q⟩ := h
  obtain ⟨t, rfl⟩ := rx
  exact rule i t s _ _ ⟨.int (g i), H, I.tok _, ⟨_, rfl⟩, q⟩
theorem un_neg : UnR X (unaryOp .USub) (rU fun i => .int (-i)) := unI fun _ _ _ _ _ q => neg_int q
end

/-! ### comparisons -/
/-- the scalars that == tells apart as data does -/
def scal : V → V → Bool
  | .non, .non => true | .non, .int _ => true | .int _, .non => true | .non, .bl _ => true | .bl _, .non => true | .non, .str _ => true | .str _, .non => true
  | .int _, .int _ => true | .bl _, .bl _ => true | .str _, .str _ => true | .byt _, .byt _ => true
  | .int _, .str _ => true | .str _, .int _ => true | .bl _, .str _ => true | .str _, .bl _ => true
  | _, _ => false
def rEq : R2 := fun x y H Q => scal x y = true ∧ Q (.bl (decide (x = y))) H
def rNe : R2 := fun x y H Q => scal x y = true ∧ Q (.bl (!decide (x = y))) H

theorem dec_int {i j : Int} : decide (V.int i = V.int j) = (i == j) := by
  rw [Bool.eq_iff_iff]
  simp
theorem dec_bl {i j : Bool} : decide (V.bl i = V.bl j) = (i == j) := by
  rw [Bool.eq_iff_iff]
  simp
theorem dec_str {i j : Str} : decide (V.str i = V.str j) = (i == j) := by
  rw [Bool.eq_iff_iff]
  simp
theorem dec_byt {i j : Array UInt8} : decide (V.byt i = V.byt j) = (i.toList == j.toList) := by
  rw [Bool.eq_iff_iff]
  cases i
  cases j
  simp

section
variable {X : Cx} {a b c : Expr} {ta tb tc : TE} {pos : Pos}
theorem fin_bl {pins : List (Addr × Obj)} {σ : St} {H : Hp} {s : Shared} {Q : VK} {k k' : Bool} (I : Inv X pins σ H s) (q : Q (.bl k) H) (e : k = k') : EP X pins σ Q (.bool k') s := by
  subst e
  exact ⟨.bl k, H, I, rfl, q⟩
theorem op_eq : OpR X (compareOp .Eq) rEq := by
  intro pins s σ H x y v u Q I rx ry h
  obtain ⟨hs, q⟩ := h
  cases x with
  | non =>
    cases rx
    cases y with
    | non => cases ry; exact PySem.EqNone.eq_none_none (fin_bl I q (by simp))
    | bl j => cases ry; exact PySem.EqNone.eq_none_bool (fin_bl I q (by simp))
    | int j => obtain ⟨t', rfl⟩ := ry; exact PySem.EqNone.eq_none_int (fin_bl I q (by simp))
    | str j => obtain ⟨t', rfl⟩ := ry; exact PySem.EqNone.eq_none_str (fin_bl I q (by simp))
    | _ => exact absurd (show false = true from hs) Bool.false_ne_true
  | bl i =>
    cases rx
    cases y with
    | non => cases ry; exact PySem.EqNone.eq_bool_none (fin_bl I q (by simp))
    | bl j => cases ry; exact eq_bool (fin_bl I q dec_bl)
    | str j => obtain ⟨t', rfl⟩ := ry; exact PySem.EqMixed.eq_bool_str (fin_bl I q (by simp))
    | _ => exact absurd (show false = true from hs) Bool.false_ne_true
  | int i =>
    obtain ⟨t, rfl⟩ := rx
    cases y with
    | non => cases ry; exact PySem.EqNone.eq_int_none (fin_bl I q (by simp))
    | int j => obtain ⟨t', rfl⟩ := ry; exact eq_int (fin_bl I q dec_int)
    | str j => obtain ⟨t', rfl⟩ := ry; exact PySem.EqMixed.eq_int_str (fin_bl I q (by simp))
    | _ => exact absurd (show false = true from hs) Bool.false_ne_true
  | str i =>
    obtain ⟨t, rfl⟩ := rx
    cases y with
    | non => cases ry; exact PySem.EqNone.eq_str_none (fin_bl I q (by simp))
    | bl j => cases ry; exact PySem.EqMixed.eq_str_bool (fin_bl I q (by simp))
    | int j => obtain ⟨t', rfl⟩ := ry; exact PySem.EqMixed.eq_str_int (fin_bl I q (by simp))
    | str j => obtain ⟨t', rfl⟩ := ry; exact eq_str (fin_bl I q dec_str)
    | _ => exact absurd (show false = true from hs) Bool.false_ne_true
  | byt i =>
    obtain ⟨t, rfl⟩ := rx
    cases y with
    | byt j => obtain ⟨t', rfl⟩ := ry; exact PySem.W.eq_bytes (fin_bl I q dec_byt)
    | _ => exact absurd (show false = true from hs) Bool.false_ne_true
  | _ => cases y <;> exact absurd (show false = true from hs) Bool.false_ne_true
theorem op_ne : OpR X (compareOp .NotEq) rNe := by
  intro pins s σ H x y v u Q I rx ry h
  obtain ⟨hs, q⟩ := h
  cases x with
  | non =>
    cases rx
    cases y with
    | non => cases ry; exact PySem.EqNone.ne_none_none (fin_bl I q (by simp))
    | bl j => cases ry; exact PySem.EqNone.ne_none_bool (fin_bl I q (by simp))
    | int j => obtain ⟨t', rfl⟩ := ry; exact PySem.EqNone.ne_none_int (fin_bl I q (by simp))
    | str j => obtain ⟨t', rfl⟩ := ry; exact PySem.EqNone.ne_none_str (fin_bl I q (by simp))
    | _ => exact absurd (show false = true from hs) Bool.false_ne_true
  | bl i =>
    cases rx
    cases y with
    | non => cases ry; exact PySem.EqNone.ne_bool_none (fin_bl I q (by simp))
    | bl j => cases ry; exact ne_bool (fin_bl I q (congrArg not dec_bl))
    | str j => obtain ⟨t', rfl⟩ := ry; exact PySem.EqMixed.ne_bool_str (fin_bl I q (by simp))
    | _ => exact absurd (show false = true from hs) Bool.false_ne_true
  | int i =>
    obtain ⟨t, rfl⟩ := rx
    cases y with
    | non => cases ry; exact PySem.EqNone.ne_int_none (fin_bl I q (by simp))
    | int j => obtain ⟨t', rfl⟩ := ry; exact ne_int (fin_bl I q (congrArg not dec_int))
    | str j => obtain ⟨t', rfl⟩ := ry; exact PySem.EqMixed.ne_int_str (fin_bl I q (by simp))
    | _ => exact absurd (show false = true from hs) Bool.false_ne_true
  | str i =>
    obtain ⟨t, rfl⟩ := rx
    cases y with
    | non => cases ry; exact PySem.EqNone.ne_str_none (fin_bl I q (by simp))
    | bl j => cases ry; exact PySem.EqMixed.ne_str_bool (fin_bl I q (by simp))
    | int j => obtain ⟨t', rfl⟩ := ry; exact PySem.EqMixed.ne_str_int (fin_bl I q (by simp))
    | str j => obtain ⟨t', rfl⟩ := ry; exact ne_str (fin_bl I q (congrArg not dec_str))
    | _ => exact absurd (show false = true from hs) Bool.false_ne_true
  | byt i =>
    obtain ⟨t, rfl⟩ := rx
    cases y with
    | byt j => obtain ⟨t', rfl⟩ := ry; exact PySem.W.ne_bytes (fin_bl I q (congrArg not dec_byt))
    | _ => exact absurd (show false = true from hs) Bool.false_ne_true
  | _ => cases y <;> exact absurd (show false = true from hs) Bool.false_ne_true

theorem op_lt : OpR X (compareOp .Lt) (rI0 fun i j => .bl (decide (i < j))) := opB0 fun _ _ _ _ _ _ _ q => lt_int q
theorem op_gt : OpR X (compareOp .Gt) (rI0 fun i j => .bl (decide (j < i))) := opB0 fun _ _ _ _ _ _ _ q => gt_int q
/-- is None, is not None: the right side a value none -/
theorem op_isN : OpR X (compareOp .Is) (fun x y H Q => y = .non ∧ Q (.bl (decide (x = .non))) H) := by
  intro pins s σ H x y v u Q I rx ry h
  obtain ⟨rfl, q⟩ := h
  cases ry
  refine is_none_gen (fin_bl I q ?_)
  cases x <;> first
    | (cases rx; rfl)
    | (obtain ⟨t, rfl⟩ := rx; rfl)
/-- two rules for one operation: by cases -/
theorem OpR.or {f : Value → Value → Sem Value} {r r' : R2} (h : OpR X f r) (h' : OpR X f r') : OpR X f (fun x y H Q => r x y H Q ∨ r' x y H Q) := by
  intro pins s σ H x y v u Q I rx ry q
  rcases q with q | q
  · exact h pins s σ H x y v u Q I rx ry q
  · exact h' pins s σ H x y v u Q I rx ry q

theorem nomark (b : Expr) {op : CmpOp} (h : op ≠ .In := by decide) (h2 : op ≠ .NotIn := by decide) : behindInMarks op b = false := by
  have e1 : (op == CmpOp.In) = false := by cases op <;> first | rfl | exact absurd rfl h
  have e2 : (op == CmpOp.NotIn) = false := by cases op <;> first | rfl | exact absurd rfl h2
  cases b <;> simp [behindInMarks, e1, e2]
/-- a comparison as a value; hm: nomark b, or (for in, not in) by with_unfolding_all rfl -/
theorem pe_cmpR {op : CmpOp} {r : R2} (ho : OpR X (compareOp op) r) (ha : PE X a ta) (hb : PE X b tb) (hm : behindInMarks op b = false) : PE X (.Compare a [op] [b] pos) (tOp r ta tb) := by
  intro pins s σ H Q I h
  exact wpAny_Compare1 (binT ha hb I h fun v u s2 x y H2 I2 rx ry q => ho pins s2 σ H2 x y v u Q I2 rx ry q) hm
/-- a reading of a value as a test -/
def tTest (t : TE) : TT := fun σ H Q => t σ H fun x H' => ∃ k, x = .bl k ∧ Q k H'
theorem pt_cmpR {op : CmpOp} {r : R2} (ho : OpR X (compareOp op) r) (ha : PE X a ta) (hb : PE X b tb) (hm : behindInMarks op b = false) : PT X (.Compare a [op] [b] pos) (tTest (tOp r ta tb)) := by
  intro pins s σ H Q I h
  refine wpAny_isTrue_Compare1 (thn (ha pins s σ H _ I h) fun v s1 ⟨x, H1, I1, r1, q1⟩ => thn (hb pins s1 σ H1 _ I1 q1) fun u s2 ⟨y, H2, I2, r2, q2⟩ =>
    thn (ho pins s2 σ H2 x y v u _ I2 r1 r2 q2) fun c s3 ⟨z, H3, I3, r3, k, e, q3⟩ => ?_) hm
  subst e
  cases r3
  exact wpAny_truthy_bool ⟨H3, I3, q3⟩
theorem line63 : (sizeLine : Nat) < 2 ^ 63 := by rw [sizeLine_eq]; decide
theorem op_add_str : OpR X (binaryOp .Add) (fun x y H Q => ∃ i j, x = .str i ∧ y = .str j ∧ i.length + j.length ≤ sizeLine ∧ Q (.str (i ++ j)) H) := by
  intro pins s σ H x y v u Q I rx ry h
  obtain ⟨i, j, rfl, rfl, hz, q⟩ := h
  obtain ⟨t, rfl⟩ := rx
  obtain ⟨t', rfl⟩ := ry
  exact add_str (fun t' tk => ⟨.str (i ++ j), H, I.tok _, ⟨_, rfl⟩, q⟩) hz
/-! ### scalar builtins, by CallR -/
theorem vals1 {x : V} {us : List Value} (r : Vals [x] us) : ∃ u, us = [u] ∧ RelV x u := by
  cases r with
  | cons r1 r2 => cases r2; exact ⟨_, rfl, r1⟩
theorem vals2 {x y : V} {us : List Value} (r : Vals [x, y] us) : ∃ u w', us = [u, w'] ∧ RelV x u ∧ RelV y w' := by
  cases r with
  | cons r1 r2 =>
    cases r2 with
    | cons r3 r4 => cases r4; exact ⟨_, _, rfl, r1, r3⟩
theorem call_int1 : CallR X (.type "int") (fun xs H Q => (∃ i, xs = [.int i] ∧ Q (.int i) H) ∨ ∃ k, xs = [.bl k] ∧ Q (.int (if k then 1 else 0)) H) := by
  intro pins s σ H xs us Q I r h
  rcases h with ⟨i, rfl, q⟩ | ⟨k, rfl, q⟩
  · obtain ⟨u, rfl, t, rfl⟩ := vals1 r
    exact call_int_int ⟨.int i, H, I, ⟨_, rfl⟩, q⟩
  · obtain ⟨u, rfl, r1⟩ := vals1 r
    cases r1
    exact call_int_bool ⟨.int (if k then 1 else 0), H, I.tok _, ⟨_, rfl⟩, q⟩
end
end L2

namespace L2
open PySem PySem.Spec PyProof.Rows

/-! ### an instance, its attributes a map -/
structure ObjM (h : Heap) (x dx C : Addr) (mA : Str → Option Value) : Prop where
  obj : h.get? x = some (PySem.W.instObj C dx)
  ns : h.Ns1 dx mA
  ne : dx ≠ x

theorem lookIn_ns {h : Heap} {dx : Addr} {mA : Str → Option Value} (n : h.Ns1 dx mA) : ∃ od, h.get? dx = some od ∧ ∀ name, PySem.W.lookIn name od = some (mA name) := by
  obtain ⟨o, es, ep, ho, hd, hk, _, hm⟩ := n
  refine ⟨o, ho, fun name => ?_⟩
  have e := hm name
  unfold nsFind findBy at e
  rw [← Array.find?_toList] at e
  unfold PySem.W.lookIn
  rw [hd]
  dsimp only
  split
  · rename_i y q
    rw [q] at e
    exact congrArg some e
  · rename_i q
    rw [q] at e
    have a : es.toList.any (·.refKey) = false := by
      rw [List.any_eq_false]
      intro y hy
      obtain ⟨z, t, hkey⟩ := hk y (Array.mem_toList_iff.mp hy)
      simp [DictEntry.refKey, hkey]
    have a' : ¬ es.toList.any (·.refKey) = true := by rw [a]; exact Bool.false_ne_true
    rw [if_neg a']
    exact congrArg some e

theorem ObjM.look {h : Heap} {x dx C : Addr} {mA : Str → Option Value} (I : ObjM h x dx C mA) : ∃ od, PySem.W.InstAt h x (PySem.W.instObj C dx) C (some od) ∧ ∀ name, PySem.W.lookIn name od = some (mA name) :=
  let ⟨od, ho, hl⟩ := lookIn_ns I.ns
  ⟨od, ⟨I.obj, rfl, rfl, ho⟩, hl⟩

section
variable {prog : Program} {w : World} {A : Around} {E : Value → Shared → Prop} {s : Shared} {K : PySem.W.Frag} {x dx C f : Addr} {mA : Str → Option Value} {name : Str} {v : Value}

end

section
variable {P : Program} {w : World} {H H' : Hp} {h h' : Heap} {a C dx : Addr} {fs fs' : List (Str × V)}
theorem ins_get (hok : HOk P w H h) (e : H a = some (.ins C dx fs)) : ∃ mA, ObjM h a dx C mA ∧ (∀ f, RelO (fs.lookup f) (mA f)) ∧ PySem.Within mA (fs.map (·.1)) ∧ fs.length ≤ 1000 ∧ H dx = some (.own a) := by
  obtain ⟨d, z, ne, ob, mA, n, r, q⟩ := (show ObjOk P w H h a (.ins C dx fs) from hok a _ e)
  exact ⟨mA, ⟨ob, n, ne⟩, r, q, z, d⟩
end

/-! ### what of the text a class must have -/
structure Cls (K : PySem.W.Frag) (C : Addr) : Prop where
  pg : PySem.W.plainGet K C Str.empty = true
  hd : PySem.W.hasDictIn K C = true
  po : PySem.W.plainOver K C = true
  sa : PySem.W.findIn K (.ref C) "__setattr__" = some (some (.builtin "object.__setattr__"))
theorem Cls.get {K : PySem.W.Frag} {C : Addr} (c : Cls K C) (f : Str) : PySem.W.plainGet K C f = true := c.pg
/-- a constant of the class -/
structure Con (K : PySem.W.Frag) (C : Addr) (f : Str) (v : V) (u : Value) : Prop where
  at_ : PySem.W.findIn K (.ref C) f = some (some u)
  rel : RelV v u
  get : PySem.W.specialIn K u "__get__" = some none
  cp : PySem.W.copiedNames.contains f = false
/-- a method: a plain def of the class or of one above it -/
structure Meth (K : PySem.W.Frag) (C : Addr) (m : Str) (f : Addr) : Prop where
  at_ : PySem.W.findIn K (.ref C) m = some (some (.ref f))
  fn : PySem.W.isFn K (.ref f) = true
  kp : PySem.W.keepIn K (.ref f) = true

section
variable {X : Cx} {pins : List (Addr × Obj)} {σ : St} {H : Hp} {s : Shared} {a C dx : Addr} {fs : List (Str × V)} {f : Str} {v : V} {A : Around} {E : Value → Shared → Prop}

/-- a new instance, tracked, without attributes -/
theorem Inv.made (I : Inv X pins σ H s) : Inv X pins σ (upd (upd H s.heap.objs.size (.own (s.heap.objs.size + 1))) (s.heap.objs.size + 1) (.ins C s.heap.objs.size []))
    { s with heap := (s.heap.push PySem.W.emptyDict).push (PySem.W.instObj C s.heap.objs.size) } := by
  have e1 : (s.heap.push PySem.W.emptyDict).get? s.heap.objs.size = some PySem.W.emptyDict := Heap.get?_push_size s.heap rfl
  have e2 : ((s.heap.push PySem.W.emptyDict).push (PySem.W.instObj C s.heap.objs.size)).get? (s.heap.objs.size + 1) = some (PySem.W.instObj C s.heap.objs.size) := by
    have := Heap.get?_push_size (s.heap.push PySem.W.emptyDict) (o := PySem.W.instObj C s.heap.objs.size) rfl
    rwa [Heap.size_push] at this
  have e3 : (s.heap.push PySem.W.emptyDict).Ns s.heap.objs.size (fun _ => none) := ⟨PySem.W.emptyDict, #[], _, e1, rfl, (fun e he => absurd he (by simp)), fun _ => rfl⟩
  have I1 := I.laid (a := s.heap.objs.size) (o := .own (s.heap.objs.size + 1)) (h' := s.heap.push PySem.W.emptyDict) (t' := s.toks) (fun b u q => Heap.get?_push_of_some _ q) (Nat.le_refl _) ⟨_, e1⟩
  refine I1.laid (a := s.heap.objs.size + 1) (o := .ins C s.heap.objs.size []) (t' := s.toks) (fun b u q => Heap.get?_push_of_some _ q) (Nat.le_of_eq (Heap.size_push _ _)) ?_
  have ne : s.heap.objs.size ≠ s.heap.objs.size + 1 := Nat.ne_of_lt (Nat.lt_succ_self _)
  refine ⟨by rw [upd_ne ne, upd_same], Nat.zero_le _, ne, e2, fun _ => none, (Heap.Ns1.of_empty e3).at fun o q => Heap.get?_push_of_some _ q, fun _ => True.intro, fun y hy => absurd rfl hy⟩

end

section
variable {X : Cx} {o e value : Expr} {f : Str} {pos pos' tpos : Pos} {ta tv : TE}
end

/-! ### isinstance -/
section
variable {X : Cx} {pins : List (Addr × Obj)} {σ : St} {H : Hp} {s : Shared} {A : Around} {E : Value → Shared → Prop} {Q : Value → Shared → Prop} {c : Value} {b : Bool}
/-- the type of a value, as the fragment's deciders take it; for an instance its class -/
inductive TyOf (K : PySem.W.Frag) (H : Hp) : V → Value → Prop where
  | non : TyOf K H .non (.type "NoneType")
  | bl (x : Bool) : TyOf K H (.bl x) (.type "bool")
  | int (i : Int) : TyOf K H (.int i) (.type "int")
  | str (x : Str) : TyOf K H (.str x) (.type "str")
  | flt (x : UInt64) : TyOf K H (.flt x) (.type "float")
  | lst {a : Addr} {xs : List V} (e : H a = some (.lst xs)) : TyOf K H (.ref a) (.type "list")
  | frz {a : Addr} {o : Obj} {xs : List V} (e : H a = some (.frz o (.lst xs))) : TyOf K H (.ref a) (.type "list")
  | tup {a : Addr} {xs : List V} (e : Rd H a (.tup xs)) : TyOf K H (.ref a) (.type "tuple")
  | dK {a : Addr} {kvs : List (Key × V)} (e : H a = some (.dK kvs)) : TyOf K H (.ref a) (.type "dict")
  | dT {a : Addr} {kvs : List (List Key × V)} (e : H a = some (.dT kvs)) : TyOf K H (.ref a) (.type "dict")
  | ins {a C dx : Addr} {fs : List (Str × V)} (e : H a = some (.ins C dx fs)) (cl : Cls K C) (ha : PySem.W.findIn K (.ref C) "__class__" = some (some (.builtin "object.__class__")))
      (hn : PySem.W.specialIn K (.builtin "object.__class__") "__get__" = some (some (.builtin "getset_descriptor.__get__"))) (htk : PySem.W.takesIn K (.builtin "object.__class__") = some true)
      (hm : PySem.W.mroIn K C (.type "object") = some true) : TyOf K H (.ref a) (.ref C)
/-- isinstance(x, c) for one class c, a built-in or an own one: kitOne's answer -/
theorem isinst_ok {x : V} {u t : Value} (I : Inv X pins σ H s) (rx : RelV x u) (ty : TyOf X.K H x t) (e : PySem.W.kitOne X.K t c = some b) (h : ∀ tk, Q (.bool b) { s with toks := tk }) :
    wpAny (model X.prog X.w) A (call (.builtin "isinstance") [u, c]) Q E s := by
  cases ty with
  | non => cases (show u = Value.none from rx); exact PySem.W.kia_one PySem.W.kitx_none I.kIn True.intro e (fun z => nomatch z) h
  | bl y => cases (show u = Value.bool y from rx); exact PySem.W.kia_one PySem.W.kitx_bool I.kIn True.intro e (fun z => nomatch z) h
  | int i => obtain ⟨t, q⟩ := (show ∃ t, u = Value.int i t from rx); cases q; exact PySem.W.kia_one PySem.W.kitx_int I.kIn True.intro e (fun z => nomatch z) h
  | str y => obtain ⟨t, q⟩ := (show ∃ t, u = Value.str y t from rx); cases q; exact PySem.W.kia_one PySem.W.kitx_str I.kIn True.intro e (fun z => nomatch z) h
  | flt y => obtain ⟨t, q⟩ := (show ∃ t, u = Value.float y t from rx); cases q; exact PySem.W.kia_one PySem.W.kitx_float I.kIn True.intro e (fun z => nomatch z) h
  | @lst a xs ea =>
    cases (show u = Value.ref a from rx)
    obtain ⟨_, _, n, _, h1⟩ := (show ObjOk X.prog X.w H s.heap a (.lst xs) from I.hok a _ ea)
    exact PySem.W.kia_one PySem.W.kitx_list I.kIn ⟨_, h1, rfl⟩ e (fun z => nomatch z) h
  | @frz a ob xs ea =>
    cases (show u = Value.ref a from rx)
    obtain ⟨_, _, _, n, _, h1⟩ := (show ObjOk X.prog X.w H s.heap a (.frz ob (.lst xs)) from I.hok a _ ea)
    exact PySem.W.kia_one PySem.W.kitx_list I.kIn ⟨_, h1, rfl⟩ e (fun z => nomatch z) h
  | @tup a xs ea =>
    cases (show u = Value.ref a from rx)
    obtain ⟨_, _, _, p⟩ := (show ObjOk X.prog X.w H s.heap a (.tup xs) from ea.ok I.hok)
    obtain ⟨o, h1, h2, _⟩ := p
    exact PySem.W.kia_one PySem.W.kitx_tuple I.kIn ⟨o, h1, h2⟩ e (fun z => nomatch z) h
  | @dK a kvs ea =>
    cases (show u = Value.ref a from rx)
    obtain ⟨_, _, vs, _, p⟩ := (show ObjOk X.prog X.w H s.heap a (.dK kvs) from I.hok a _ ea)
    obtain ⟨o, es, ep, h1, h2, _⟩ := p
    exact PySem.W.kia_one PySem.W.kitx_dict I.kIn ⟨o, h1, h2.1⟩ e (fun z => nomatch z) h
  | @dT a kvs ea =>
    cases (show u = Value.ref a from rx)
    obtain ⟨_, _, xs, _, o, es, ep, h1, h2, _⟩ := (show ObjOk X.prog X.w H s.heap a (.dT kvs) from I.hok a _ ea)
    exact PySem.W.kia_one PySem.W.kitx_dict I.kIn ⟨o, h1, h2.1⟩ e (fun z => nomatch z) h
  | @ins a C dx fs ea cl ha hn htk hm =>
    cases (show u = Value.ref a from rx)
    obtain ⟨mA, O, _⟩ := ins_get I.hok ea
    obtain ⟨od, J, _⟩ := O.look
    exact PySem.W.kia_one (PySem.W.kitx_own (cl.get _) cl.hd ha hn htk hm) I.kIn J e (fun z => nomatch z) h
end
end L2

namespace L2
open PySem PySem.Spec PyProof.Rows

/-! ### room -/
structure Room (k : Nat) (A : Around) : Prop where
  hd : A.handled = none
  dp : A.depth + 3 * k + 5 < recursionLimit
  un : A.units + 16 * k + 200 < cLine
theorem Room.mono {j k : Nat} {A : Around} (r : Room k A) (h : j ≤ k) : Room j A := ⟨r.hd, by have := r.dp; omega, by have := r.un; omega⟩
theorem Room.deeper {k : Nat} {A : Around} (r : Room (k + 1) A) (env : Env) : Room k (A.deeper env) :=
  ⟨r.hd, by have := r.dp; show A.depth + 1 + 3 * k + 5 < _; omega, by have := r.un; show A.units + 3 + 16 * k + 200 < _; omega⟩
theorem Room.in1 {k : Nat} {A : Around} (r : Room (k + 1) A) : Room k A.in1 :=
  ⟨r.hd, by have := r.dp; show A.depth + 3 * k + 5 < _; omega, by have := r.un; show A.units + 1 + 16 * k + 200 < _; omega⟩
theorem Room.depth {k : Nat} {A : Around} (r : Room k A) : A.depth < recursionLimit := by have := r.dp; omega
theorem Room.units {k : Nat} {A : Around} (r : Room k A) : A.units + 64 < cLine := by have := r.un; omega
/-! ### argument lists and displays -/
def tNil : TA := fun _ H Q => Q [] H
def tCons (ta : TE) (tr : TA) : TA := fun σ H Q => ta σ H fun x H1 => tr σ H1 fun xs H2 => Q (x :: xs) H2
section
variable {X : Cx} {e : Expr} {es : List Expr} {te : TE} {t : TA} {pos : Pos}
theorem pa_nil : PA X [] tNil := fun _ _ _ _ H Q I h => Calls.spliced_nil ⟨[], H, I, .nil, h⟩
theorem pa_cons (ha : PE X e te) (hr : PA X es t) (hs : starEach (e :: es) X.env = (false, eval e X.env) :: starEach es X.env := by rfl) : PA X (e :: es) (tCons te t) := by
  intro pos pins s σ H Q I h
  rw [hs]
  show wpAny _ _ (spliced ((false, eval e X.env) :: backTo pos (starEach es X.env))) _ _ s
  refine Calls.spliced_cons (thn (ha pins s σ H _ I h) fun u s1 ⟨x, H1, I1, r1, q1⟩ => ?_)
  exact thn (hr pos pins s1 σ H1 _ I1 q1) fun us s2 ⟨xs, H2, I2, r2, q2⟩ => ⟨x :: xs, H2, I2, .cons r1 r2, q2⟩

/-- a tuple, a list of written items -/
def tTup (t : TA) : TE := fun σ H Q => t σ H fun xs H1 => xs.length ≤ sizeLine ∧ ∀ p, H1 p = none → Q (.ref p) (upd H1 p (.tup xs))
def tLst (t : TA) : TE := fun σ H Q => t σ H fun xs H1 => xs.length ≤ sizeLine ∧ ∀ p, H1 p = none → Q (.ref p) (upd H1 p (.lst xs))
theorem pe_tup {x1} (h : PA X es t) : PE X (.Tuple es x1 pos) (tTup t) := by
  intro pins s σ H Q I hq
  refine wpAny_Tuple_spliced (thn (h pos pins s σ H _ I hq) fun us s1 ⟨xs, H1, I1, r, z, q⟩ => ⟨by rw [← r.length]; exact z, ?_⟩)
  have hf : H1 s1.heap.objs.size = none := I1.hok.fresh (Nat.le_refl _)
  refine ⟨.ref s1.heap.objs.size, upd H1 s1.heap.objs.size (.tup xs), I1.laid (t' := s1.toks) (fun b u e => Heap.get?_push_of_some _ e) (Nat.le_refl _) ?_, rfl, q _ hf⟩
  exact ⟨z, us, r, ⟨_, Heap.get?_push_size _ rfl, rfl, _, rfl⟩⟩
theorem pe_lst (h : PA X es t) : PE X (.List es pos) (tLst t) := by
  intro pins s σ H Q I hq
  refine wpAny_List_spliced (thn (h pos pins s σ H _ I hq) fun us s1 ⟨xs, H1, I1, r, z, q⟩ => ⟨by rw [← r.length]; exact z, ?_⟩)
  have hf : H1 s1.heap.objs.size = none := I1.hok.fresh (Nat.le_refl _)
  refine ⟨.ref s1.heap.objs.size, upd H1 s1.heap.objs.size (.lst xs), I1.laid (t' := s1.toks) (fun b u e => Heap.get?_push_of_some _ e) (Nat.le_refl _) ?_, rfl, q _ hf⟩
  exact ⟨z, us, 0, r, Heap.get?_push_size _ rfl⟩
end

/-! ### what a def promises -/
/-- a def's promise: the bound arguments in the parameters' order, the heap, the wanted end, the wanted exception -/
abbrev Sp := List V → Hp → VK → XK → Prop
/-- how an exception lies behind a call (file 08 gives it): the callers' frames, abstract heap and state ahead of the call, the wish, the exception, the state -/
abbrev CXT := List Env → Hp → Shared → XK → Value → Shared → Prop

/-- the state at a call -/
structure Env0 (P : Program) (w : World) (K : PySem.W.Frag) (mg : Str → Option Value) (base : Heap) (A : Around) (outer : List Env) (s : Shared) (H : Hp) : Prop where
  frames : A.frames = some outer
  mod : Mod K mg base
  bs : ∀ b o, base.get? b = some o → s.heap.get? b = some o ∧ Sb K H b o
  bsz : base.objs.size ≤ s.heap.objs.size
  funs : s.heap.FunFrames base outer
  frf : ∀ b ∈ frs outer, H b = none
  hok : HOk P w H s.heap
  bare : AllBare s.gens
/-- a call's end -/
def CE (outer : List Env) (P : Program) (w : World) (H : Hp) (s : Shared) (Q : VK) (u : Value) (s' : Shared) : Prop :=
  ∃ v H', s'.os = s.os ∧ AllBare s'.gens ∧ Un (frs outer) [] H H' s.heap s'.heap ∧ HOk P w H' s'.heap ∧ RelV v u ∧ Q v H'
def CR (CX : CXT) (outer : List Env) (P : Program) (w : World) (H : Hp) (s : Shared) (Q : VK) (E : XK) (r : Result) (s' : Shared) : Prop :=
  match r with
  | .ok (.ret u) => CE outer P w H s Q u s'
  | .ok _ => False
  | .error e => CX outer H s E e s'
structure FnOk (P : Program) (w : World) (K : PySem.W.Frag) (mg : Str → Option Value) (base : Heap) (CX : CXT) (k : Nat) (f : Addr) (fd : FuncData) (ps : List Str) (sp : Sp) : Prop where
  len : ∀ vs H Q E, sp vs H Q E → vs.length = ps.length
  run : ∀ (A : Around) (outer : List Env) (s : Shared) (H : Hp) (args : Args) (us : List Value) (vs : List V) (Q : VK) (E : XK), Room k A → Env0 P w K mg base A outer s H → BindsTo s fd args (ps.zip us) → Vals vs us → sp vs H Q E →
    codeAny (model P w) A (.call (.ref f) args) (CR CX outer P w H s Q E) s
theorem FnOk.mono {P : Program} {w : World} {K : PySem.W.Frag} {mg : Str → Option Value} {base : Heap} {CX : CXT} {j k : Nat} {f : Addr} {fd : FuncData} {ps : List Str} {sp : Sp} (F : FnOk P w K mg base CX j f fd ps sp) (h : j ≤ k) :
    FnOk P w K mg base CX k f fd ps sp := ⟨F.len, fun A outer s H args us vs Q E hr => F.run A outer s H args us vs Q E (hr.mono h)⟩
/-- a weaker promise -/
theorem FnOk.imp {P : Program} {w : World} {K : PySem.W.Frag} {mg : Str → Option Value} {base : Heap} {CX : CXT} {k : Nat} {f : Addr} {fd : FuncData} {ps : List Str} {sp sp' : Sp} (F : FnOk P w K mg base CX k f fd ps sp)
    (h : ∀ vs H Q E, sp' vs H Q E → sp vs H Q E) : FnOk P w K mg base CX k f fd ps sp' :=
  ⟨fun vs H Q E q => F.len vs H Q E (h _ _ _ _ q), fun A outer s H args us vs Q E hr he hb hv hs => F.run A outer s H args us vs Q E hr he hb hv (h _ _ _ _ hs)⟩

theorem Env0.in1 {P : Program} {w : World} {K : PySem.W.Frag} {mg : Str → Option Value} {base : Heap} {A : Around} {outer : List Env} {s : Shared} {H : Hp} (e : Env0 P w K mg base A outer s H) :
    Env0 P w K mg base A.in1 outer s H := ⟨e.frames, e.mod, e.bs, e.bsz, e.funs, e.frf, e.hok, e.bare⟩

section
variable {X : Cx} {pins : List (Addr × Obj)} {σ : St} {H : Hp} {s s' : Shared}
/-- from a body: what a callee wants -/
theorem Inv.env0 (I : Inv X pins σ H s) : Env0 X.prog X.w X.K X.mg X.base X.A X.stack s H :=
  ⟨I.ok.frames, I.ok.mod, I.bs, Nat.le_trans I.ok.bsz I.sz, I.stack, I.stkFree, I.hok, I.bare⟩
/-- behind a call -/
theorem Inv.after {Q : VK} {u : Value} (I : Inv X pins σ H s) (h : CE X.stack X.prog X.w H s Q u s') : EP X pins σ Q u s' := by
  obtain ⟨v, H', os, bare, un, hok, r, q⟩ := h
  obtain ⟨hh, g, d, t, os'⟩ := s'
  obtain rfl : os' = s.os := os
  exact ⟨v, H', I.call (h' := hh) (g' := g) (d' := d) (t' := t) (ch := []) un hok bare (fun b z => absurd z (by simp)), r, q⟩
end

/-- how the parameters are bound: us the positional arguments, kw the keywords' values by name, ds the defaults that fill up -/
def Binds (K : PySem.W.Frag) (fd : FuncData) (ps : List Str) (ds : List Value) : Prop :=
  ∀ (s : Shared) (us : List Value), K.In s.heap → (us ++ ds).length = ps.length → BindsTo s fd ⟨us, []⟩ (ps.zip (us ++ ds))
/-- every parameter is given -/
theorem Binds.all {K : PySem.W.Frag} {fd : FuncData} {ps : List Str} (h : ∀ us : List Value, us.length = ps.length → bindArgs fd ⟨us, []⟩ = pure (ps.zip us)) : Binds K fd ps [] := fun s us _ hl => by
  rw [List.append_nil] at hl ⊢
  exact .of_eq (h us hl)

section
variable {X : Cx} {CX : CXT} {k : Nat} {f C : Addr} {fd : FuncData} {ps : List Str} {sp : Sp} {dvs : List V} {ds : List Value} {E : XK} {x m : Str} {p pos apos : Pos} {e o : Expr} {es : List Expr} {ta : TE} {t : TA}

/-- what a class must have to be made -/
structure Mk (K : PySem.W.Frag) (C f : Addr) : Prop where
  makes : PySem.W.makesIn K C = true
  init : PySem.W.findIn K (.ref C) "__init__" = some (some (.ref f))
  fn : PySem.W.isFn K (.ref f) = true
  kp : PySem.W.keepIn K (.ref C) = true

end

section
variable {X : Cx} {CX : CXT} {k : Nat} {f C : Addr} {fd : FuncData} {ps ks : List Str} {sp : Sp} {E : XK} {x m : Str} {p pos apos kpos : Pos} {e o : Expr} {es : List Expr} {kws : List Keyword} {te ta : TE} {t tk : TA} {nm : Option Str}
/-- how a call with keywords binds: g puts the positional values us and the keywords' values ws (names ks) in the parameters' order, defaults among them -/
structure KBinds (K : PySem.W.Frag) (fd : FuncData) (ps ks : List Str) (g : List Value → List Value → List Value) (gV : List V → List V → List V) : Prop where
  to : ∀ (s : Shared) (us ws : List Value), K.In s.heap → (g us ws).length = ps.length → BindsTo s fd ⟨us, ks.zip ws⟩ (ps.zip (g us ws))
  rel : ∀ {vs : List V} {us : List Value} {zs : List V} {ws : List Value}, Vals vs us → Vals zs ws → Vals (gV vs zs) (g us ws)
variable {g : List Value → List Value → List Value} {gV : List V → List V → List V}
end

/-! ### a def's body keeps its promise -/
/-- names: the parameters first -/
structure FnScope (N P : List Str) (sc : Scope) : Prop where
  kind : sc.kind = .function
  co : sc.isCoroutine = false
  gen : sc.isGenerator = false
  nd : N.Nodup
  pre : N.take P.length = P
  par : ∀ x ∈ P, sc.names.lookup x = some .local ∨ sc.names.lookup x = some .cell
  nofree : ∀ y ∈ sc.names, y.2 ≠ .free

theorem bindL_out {kindOf : Str → Option NameKind} {x : Str} : ∀ {binds : List (Str × Value)} {m : Str → Option Value}, (∀ v, (x, v) ∉ binds) → bindL kindOf binds m x = m x
  | [], _, _ => rfl
  | (n, v) :: r, m, h => by
    unfold bindL
    rw [bindL_out fun w hw => h w (List.mem_cons_of_mem _ hw)]
    split
    · have : x ≠ n := by rintro rfl; exact h v List.mem_cons_self
      simp [this]
    · rfl
theorem bindC_out {kindOf : Str → Option NameKind} {x : Str} : ∀ {binds : List (Str × Value)} {m : Str → Option Value}, (∀ v, (x, v) ∉ binds) → bindC kindOf binds m x = m x
  | [], _, _ => rfl
  | (n, v) :: r, m, h => by
    unfold bindC
    rw [bindC_out fun w hw => h w (List.mem_cons_of_mem _ hw)]
    split
    · rfl
    · have : x ≠ n := by rintro rfl; exact h v List.mem_cons_self
      simp [this]
theorem bindL_get {kindOf : Str → Option NameKind} {x : Str} {v : Value} : ∀ {P : List Str} {vs : List Value} {i : Nat} {m : Str → Option Value}, P.Nodup → P[i]? = some x → vs[i]? = some v → kindOf x = some .local →
    bindL kindOf (P.zip vs) m x = some v
  | [], _, _, _, _, h, _, _ => by simp at h
  | _ :: _, [], _, _, _, _, h, _ => by simp at h
  | p :: P, w :: vs, 0, m, nd, h1, h2, hk => by
    simp at h1 h2; subst h1; subst h2
    show bindL kindOf ((p, w) :: P.zip vs) m p = _
    unfold bindL
    rw [bindL_out fun v hv => (List.nodup_cons.mp nd).1 (List.of_mem_zip hv).1, if_pos hk]
    simp
  | p :: P, w :: vs, i + 1, m, nd, h1, h2, hk => by
    show bindL kindOf ((p, w) :: P.zip vs) m x = _
    unfold bindL
    exact bindL_get (i := i) (List.nodup_cons.mp nd).2 (by simpa using h1) (by simpa using h2) hk
theorem bindC_get {kindOf : Str → Option NameKind} {x : Str} {v : Value} : ∀ {P : List Str} {vs : List Value} {i : Nat} {m : Str → Option Value}, P.Nodup → P[i]? = some x → vs[i]? = some v → kindOf x ≠ some .local →
    bindC kindOf (P.zip vs) m x = some v
  | [], _, _, _, _, h, _, _ => by simp at h
  | _ :: _, [], _, _, _, _, h, _ => by simp at h
  | p :: P, w :: vs, 0, m, nd, h1, h2, hk => by
    simp at h1 h2; subst h1; subst h2
    show bindC kindOf ((p, w) :: P.zip vs) m p = _
    unfold bindC
    rw [bindC_out fun v hv => (List.nodup_cons.mp nd).1 (List.of_mem_zip hv).1, if_neg hk]
    simp
  | p :: P, w :: vs, i + 1, m, nd, h1, h2, hk => by
    show bindC kindOf ((p, w) :: P.zip vs) m x = _
    unfold bindC
    exact bindC_get (i := i) (List.nodup_cons.mp nd).2 (by simpa using h1) (by simpa using h2) hk

/-- the names' values at the entry -/
def start (N : List Str) (vs : List V) : St := vs.map some ++ List.replicate (N.length - vs.length) none

/-- the context of a def's body, at its entry; an exception leaves the frame, then lies as CX says -/
def cxOf (CX : CXT) (P : Program) (w : World) (K : PySem.W.Frag) (mg : Str → Option Value) (base : Heap) (N : List Str) (qual : Str) (scope : Scope) (f : Addr) (cd : Value) (A : Around) (outer : List Env) (s : Shared) (H : Hp) (E : XK) : Cx where
  prog := P
  w := w
  K := K
  mg := mg
  base := base
  A := A.deeper (envOfC qual scope s.heap.objs.size f cd)
  N := N
  s₀ := s
  H₀ := H
  env := envOfC qual scope s.heap.objs.size f cd
  outer := outer
  stack := envOfC qual scope s.heap.objs.size f cd :: outer
  ex := []
  calm := true
  fn := fun _ => true
  pn := []
  xe := fun e s' => wpAny (model P w) (A.deeper (envOfC qual scope s.heap.objs.size f cd)) (leaving (envOfC qual scope s.heap.objs.size f cd) e) (fun _ s'' => CX outer H s E e s'') (fun e' s'' => CX outer H s E e' s'') s'

theorem cell_has {sc : Scope} {n : Nat} {x : Str} (h : sc.names.lookup x = some .cell) : ∃ c, (cellsFrom n sc.names []).lookup x = some c := by
  have q := PySem.W.cellsFrom_some sc.names n [] (.inl h)
  exact Option.isSome_iff_exists.mp q

theorem inv_start {CX : CXT} {P : Program} {w : World} {K : PySem.W.Frag} {mg : Str → Option Value} {base : Heap} {N ps : List Str} {qual : Str} {scope : Scope} {f : Addr} {cd : Value} {A : Around} {outer : List Env} {s s1 : Shared} {H : Hp} {E : XK} {us : List Value} {vs : List V}
    (S : FnScope N ps scope) (hd : A.handled = none) (e0 : Env0 P w K mg base A outer s H) (hl : vs.length = ps.length) (r : Vals vs us)
    (x : InCallC s s.heap.objs.size (bindL (envOfC qual scope s.heap.objs.size f cd).kindOf (ps.zip us) fun _ => none) (cellsFrom (s.heap.objs.size + 1) scope.names []) (bindC (envOfC qual scope s.heap.objs.size f cd).kindOf (ps.zip us) fun _ => none) s1) :
    Inv (cxOf CX P w K mg base N qual scope f cd A outer s H E) [] (start N vs) H s1 := by
  have hpl : ps.length ≤ N.length := by have := congrArg List.length S.pre; rw [List.length_take] at this; omega
  obtain ⟨h1, tk, rfl, hk⟩ := x.done
  have noA : ∀ b : Addr, b ∉ (cxOf CX P w K mg base N qual scope f cd A outer s H E).ex := fun b z => absurd (show b ∈ ([] : List Addr) from z) (by simp)
  refine ⟨⟨e0.mod, S.kind, rfl, rfl, Nat.le_refl _, fun y z c h1 h2 => ?_, fun y hy => ?_, fun y c _ h => ?_, fun _ => hd, Around.frames_deeper e0.frames, .inr ⟨rfl, rfl⟩, fun b z => absurd z (noA b), e0.bs, e0.bsz, fun b _ _ => noA b, fun b z => absurd z (noA b), e0.funs, e0.frf⟩,
    rfl, e0.bare, Un.kept hk, ⟨_, x.toInCall.ns, fun i y v h1 h2 h3 => ?_⟩, fun y c h => ⟨_, x.cell y c h⟩, e0.hok.fresh (Nat.le_refl _), fun y c h => ?_, fun p hp => absurd (show p ∈ ([] : List (Addr × Obj)) from hp) (by simp), e0.hok.kept hk, ?_⟩
  · exact name_of_addr x.apart (PySem.mem_of_lookup h1) (PySem.mem_of_lookup h2)
  · have hy : scope.names.lookup y = some .cell ∨ scope.names.lookup y = some .free := hy
    rcases hy with hy | hy
    · exact cell_has hy
    · exact absurd rfl (S.nofree _ (PySem.mem_of_lookup hy))
  · exact Nat.le_of_lt (x.above y c (PySem.mem_of_lookup h))
  · have hi : i < vs.length := by
      unfold start at h2
      by_cases hi : i < vs.length
      · exact hi
      · rw [List.getElem?_append_right (by simpa using hi)] at h2
        rw [List.getElem?_replicate] at h2
        split at h2 <;> cases h2
    have ha : vs[i]? = some v := by
      unfold start at h2
      rw [List.getElem?_append_left (by simpa using hi), List.getElem?_map] at h2
      cases e : vs[i]? with
      | none => rw [e] at h2; cases h2
      | some a => rw [e] at h2; cases h2; rfl
    obtain ⟨u, hu, rv⟩ := r.get ha
    have hp : ps[i]? = some y := by
      rw [← S.pre, List.getElem?_take_of_lt (by omega)]; exact h1
    have ndP : ps.Nodup := by rw [← S.pre]; exact S.nd.sublist (List.take_sublist _ _)
    refine ⟨u, rv, ?_⟩
    rcases S.par y (List.mem_of_getElem? hp) with k | k
    · exact .inl ⟨k, bindL_get ndP hp hu k⟩
    · obtain ⟨c, e⟩ := cell_has (n := s.heap.objs.size + 1) k
      refine .inr ⟨.inl k, c, e, ?_⟩
      have q := x.cell y c e
      rw [bindC_get ndP hp hu (by show scope.names.lookup y ≠ _; rw [k]; decide)] at q
      exact q
  · exact e0.hok.fresh (Nat.le_of_lt (x.above y c (PySem.mem_of_lookup h)))
  · unfold start
    show _ = N.length
    rw [List.length_append, List.length_map, List.length_replicate]
    omega

/-- THE RULE: a def (or a method) of the text, by its body. The body's reading t is chosen for each entry; it is run at the parameters' values -/
theorem fn_of {CX : CXT} {P : Program} {w : World} {K : PySem.W.Frag} {mg : Str → Option Value} {base : Heap} {k : Nat} {f : Addr} {name qual : Str} {params : Arguments} {body : List Stmt} {scope : Scope} {dV kV doc pm cdv ct oc : Value} {an od : Option Addr}
    {osl : Array (Option Value)} {N ps : List Str} {sp : Sp} (lk : K.lookup f = some ⟨oc, od, .func (PySem.W.fnOf name qual params body scope dV kV doc pm an cdv ct), osl⟩) (hcd : PySem.W.codeIn K cdv qual = true) (S : FnScope N ps scope)
    (len : ∀ vs H Q E, sp vs H Q E → vs.length = ps.length)
    (hbody : ∀ (A : Around) (outer : List Env) (s : Shared) (H : Hp) (vs : List V) (Q : VK) (E : XK), Room k (A.deeper (envOfC qual scope s.heap.objs.size f cdv)) → sp vs H Q E →
      ∃ t, PSs (cxOf CX P w K mg base N qual scope f cdv A outer s H E) body t ∧ t { nx := fun _ H' => Q .non H', rt := Q } (start N vs) H) :
    FnOk P w K mg base CX (k + 1) f (PySem.W.fnOf name qual params body scope dV kV doc pm an cdv ct) ps sp := by
  refine ⟨len, fun A outer s H args us vs Q E hr e0 hb r hsp => ?_⟩
  have hl := len _ _ _ _ hsp
  have KX : K.In s.heap := e0.mod.kin.keeps fun b o e => (e0.bs b o e).1
  have lim : s.heap.NoLimit := e0.mod.nolimit.keeps fun b o e => (e0.bs b o e).1
  have hkind : ∀ y ∈ ps.zip us, scope.names.lookup y.1 = some .local ∨ (scope.names.lookup y.1 = some .cell ∧ ((cellsFrom (s.heap.objs.size + 1) scope.names []).lookup y.1).isSome = true) := fun ⟨n, v⟩ hy => by
    rcases S.par n (List.of_mem_zip hy).1 with q | q
    · exact .inl q
    · exact .inr ⟨q, PySem.W.cellsFrom_some _ _ _ (.inl q)⟩
  refine codeAny_call_function hr.depth (KX _ _ lk) rfl S.co S.gen rfl (PySem.W.codeRec_of KX hcd) (hb _ _ _ _ ?_)
  refine wpAny_newFunctionEnv_cells S.kind hkind fun env he s1 x => ?_
  subst he
  refine ⟨lim.keeps x.toInCall.keep, codeAny_func ?_⟩
  obtain ⟨t, ht, hq⟩ := hbody A outer s H vs Q E (hr.deeper _) hsp
  have I : Inv (cxOf CX P w K mg base N qual scope f cdv A outer s H E) [] (start N vs) H s1 := inv_start S hr.hd e0 hl r x
  refine wpAny_mono (ht [] s1 (start N vs) H _ I hq) (fun fl s' hs => ?_) fun e s' hs => hs
  have fin : ∀ {σ' : St} {H' : Hp} {v : V} {u : Value}, Inv (cxOf CX P w K mg base N qual scope f cdv A outer s H E) [] σ' H' s' → RelV v u → Q v H' → CE outer P w H s Q u s' :=
    fun {σ' H' v u} J rv q => ⟨v, H', J.os, J.bare, J.base, J.hok, rv, q⟩
  cases fl with
  | ret u =>
    obtain ⟨v, σ', H', J, rv, q⟩ := hs
    exact fin J rv q
  | next =>
    obtain ⟨σ', H', J, q⟩ := hs
    exact fin (v := V.non) (u := Value.none) J rfl q
  | brk =>
    obtain ⟨_, _, _, q⟩ := hs
    exact False.elim q
  | cont =>
    obtain ⟨_, _, _, q⟩ := hs
    exact False.elim q
end L2

namespace L2
open PySem PySem.Spec PyProof.Rows
section
variable {X : Cx} {x : Str} {p pos : Pos} {e : Expr} {es : List Expr} {t : TA} {id T : String} {r : List V → Hp → VK → Prop}

def tCB (r : List V → Hp → VK → Prop) (t : TA) : TE := fun σ H Q => t σ H fun vs H1 => r vs H1 Q
/-- f(e, ..), f a built-in function -/
theorem pe_callB (hc : CallR X (.builtin id) r) (hg : Gl X x) (hm : X.mg x = none) (hv : bootBuiltins x = some (.builtin id)) (ha : PA X (e :: es) t) (hn : x ≠ "__name__" := by decide) (hdb : (x == ("__debug__" : Str)) = false := by decide)
    (he : starEach (e :: es) X.env = (false, eval e X.env) :: starEach es X.env := by rfl) (hpl : (backTo pos (starEach es X.env)).any (·.1) = false := by rfl) : PE X (.Call (.Name x p) (e :: es) [] pos) (tCB r t) := by
  intro pins s σ H Q I h
  refine wpAny_Call_Name_kw (ld_blt I hg hm hv ?_ hn hdb)
  exact PyProof.Rows.callWith_builtin1 (thn (ha pos pins s σ H _ I h) fun us s1 ⟨vs, H1, I1, r1, q1⟩ => hc pins s1 σ H1 vs us Q I1 r1 q1) he hpl
/-- T(e, ..), T a built-in type -/
theorem pe_callTy (hc : CallR X (.type T) r) (hg : Gl X x) (hm : X.mg x = none) (hv : bootBuiltins x = some (.type T)) (ha : PA X (e :: es) t) (hn : x ≠ "__name__" := by decide) (hdb : (x == ("__debug__" : Str)) = false := by decide)
    (he : starEach (e :: es) X.env = (false, eval e X.env) :: starEach es X.env := by rfl) (hpl : (backTo pos (starEach es X.env)).any (·.1) = false := by rfl) : PE X (.Call (.Name x p) (e :: es) [] pos) (tCB r t) := by
  intro pins s σ H Q I h
  refine wpAny_Call_Name_kw (ld_blt I hg hm hv ?_ hn hdb)
  exact PyProof.Rows.callWith_type1 (thn (ha pos pins s σ H _ I h) fun us s1 ⟨vs, H1, I1, r1, q1⟩ => hc pins s1 σ H1 vs us Q I1 r1 q1) he hpl
end
end L2

namespace HT
open PySem PyProof.Rows

/-- t < u of tuples of ints -/
def lexLt : List Int → List Int → Bool
  | [], [] => false
  | [], _ :: _ => true
  | _ :: _, [] => false
  | x :: xs, y :: ys => if x = y then lexLt xs ys else decide (x < y)
theorem lexLt_cons (x y : Int) (xs ys : List Int) : lexLt (x :: xs) (y :: ys) = if x = y then lexLt xs ys else decide (x < y) := rfl
theorem lexLt_nil_nil : lexLt [] [] = false := rfl
theorem lexLt_nil_cons (y : Int) (ys : List Int) : lexLt [] (y :: ys) = true := rfl
theorem lexLt_cons_nil (x : Int) (xs : List Int) : lexLt (x :: xs) [] = false := rfl

theorem eqAt_int (A : Around) (s : Shared) (a : Int) (t : Tok) (c : Int) (u : Tok) : ∃ e, SeqAt.EqAt A s (.int a t) (.int c u) e ∧ (e = true ↔ a = c) :=
  ⟨(a == c), SeqAt.EqAt.int_int a t c u, by simp⟩
theorem rcLt_int (A : Around) (s : Shared) (a : Int) (t : Tok) (c : Int) (u : Tok) (prog : Program) (w : World) (E : Value → Shared → Prop) (Q : Value → Shared → Prop) (h : Q (.bool (decide (a < c))) s) :
    wpAny (model prog w) A (richCompare .Lt (.int a t) (.int c u)) Q E s :=
  (PyProof.Rows.lt_int h : wpAny (model prog w) A (compareOp .Lt (.int a t) (.int c u)) Q E s)

section
open PySem.SeqAt
open PySem.AutoSeq1 (wpAny_loadPart')
open PySem.MeetsSeq PySem.MeetsSeq2 PySem.MeetsSeq3

theorem tuple_lt_ints (l b : Addr) (items items2 : Array Value) (n n2 : Nat) (dd dd2 : Option Addr) (sl sl2 : Array (Option Value)) (ns ms : List Int) (hi : IntsAre items.toList ns) (hj : IntsAre items2.toList ms) :
    Meets (Builtin.«tuple.__lt__» ⟨[.ref l, .ref b], []⟩)
      (fun _ R s => s.heap.get? l = some { cls := .type "tuple", dict := dd, data := .seq items n, slots := sl } ∧ s.heap.get? b = some { cls := .type "tuple", dict := dd2, data := .seq items2 n2, slots := sl2 } ∧
        R (.ok (.ret (.bool (lexLt ns ms)))) s) :=
  .of_wp fun prog w A R s h => by
    obtain ⟨hp, g, d, tk, os⟩ := s; obtain ⟨hl, hb, h⟩ := h
    have f2 := AutoSeq1.sub_tuple_tuple
    have z1 : items.size = ns.length := by rw [← hi.length]; simp
    have z2 : items2.size = ms.length := by rw [← hj.length]; simp
    wp_walk using wpAny_loadPart' hl, wpAny_loadPart' hb, wpAny_forIn_list _ (fun rest b s' => b.1 = none ∧ s' = ⟨hp, g, d, tk, os⟩ ∧ ∃ (vs ws : List Value) (ns' ms' : List Int), rest = vs.zip ws ∧
      IntsAre vs ns' ∧ IntsAre ws ms' ∧ ns'.length + items2.size = ms'.length + items.size ∧ R (.ok (.ret (.bool (lexLt ns' ms')))) ⟨hp, g, d, tk, os⟩) _
    case turn =>
      rintro ⟨y, x⟩ rest b s' ⟨hb', rfl, vs, ws, ns', ms', hz, hvi, hwi, hlen, hR⟩
      cases hvi with
      | nil => rw [List.zip_nil_left] at hz; cases hz
      | cons a t hvi' =>
        cases hwi with
        | nil => rw [List.zip_nil_right] at hz; cases hz
        | cons c u hwi' =>
          rw [List.zip_cons_cons] at hz
          injection hz with hyx hrest
          injection hyx with hy hx
          subst hy hx
          rw [lexLt_cons] at hR
          simp only [List.length_cons] at hlen
          obtain ⟨e, he, hiff⟩ := eqAt_int A.in1 ⟨hp, g, d, tk, os⟩ a t c u
          refine wpAny_bind (he prog w _ _ ?_)
          cases e with
          | true =>
            rw [if_pos (hiff.mp rfl)] at hR
            wp_walk
            exact ⟨rfl, rfl, _, _, _, _, hrest, hvi', hwi', by omega, hR⟩
          | false =>
            rw [if_neg (fun q => absurd (hiff.mpr q) Bool.false_ne_true)] at hR
            have hri := rcLt_int A.in1 ⟨hp, g, d, tk, os⟩ a t c u prog w
            wp_walk using hri
            exact ⟨_, rfl, by simpa using hR⟩
    case fin =>
      rintro ⟨b1, b2⟩ s' ⟨hb', rfl, vs, ws, ns', ms', hz, hvi, hwi, hlen, hR⟩
      simp only at hb'
      subst hb'
      have hv : lexLt ns' ms' = decide (items.size < items2.size) := by
        cases hvi with
        | nil =>
          cases hwi with
          | nil =>
            simp only [List.length_nil] at hlen
            rw [lexLt_nil_nil]
            exact (decide_eq_false (by omega)).symm
          | cons c u hw =>
            simp only [List.length_nil, List.length_cons] at hlen
            rw [lexLt_nil_cons]
            exact (decide_eq_true (by omega)).symm
        | cons a t hv =>
          cases hwi with
          | nil =>
            simp only [List.length_nil, List.length_cons] at hlen
            rw [lexLt_cons_nil]
            exact (decide_eq_false (by omega)).symm
          | cons c u hw =>
            rw [List.zip_cons_cons] at hz
            cases hz
      rw [hv] at hR
      wp_walk
      exact ⟨_, rfl, by simpa [Builtin.Tuple.tupleCompareSizes] using hR⟩
    case h =>
      exact ⟨rfl, rfl, items.toList, items2.toList, ns, ms, rfl, hi, hj, by omega, h⟩
end

section
variable {prog : Program} {w : World} {A : Around} {E : Value → Shared → Prop} {s : Shared}

theorem lt_tupInts {l b : Addr} {items items2 : Array Value} {ns ms : List Int} {Q : Value → Shared → Prop} (hl : IsTup s.heap l items) (hb : IsTup s.heap b items2) (hi : IntsAre items.toList ns) (hj : IntsAre items2.toList ms)
    (hu : A.units < cLine) (h : Q (.bool (lexLt ns ms)) s) : wpAny (model prog w) A (compareOp .Lt (.ref l) (.ref b)) Q E s := by
  obtain ⟨⟨cls, dd, data, sl⟩, ho, hc, n, hd⟩ := id hl
  obtain ⟨⟨cls2, dd2, data2, sl2⟩, ho2, hc2, n2, hd2⟩ := id hb
  simp only at hc hd hc2 hd2
  subst hc hd hc2 hd2
  exact richCompare_meets_room (op := .Lt) ⟨_, ho, rfl⟩ ⟨_, ho2, rfl⟩ PySem.F.slot_tuple_lt PySem.F.entry_tuple_lt (PySem.F.args_tuple_lt_2 _ _) (tuple_lt_ints l b items items2 n n2 dd dd2 sl sl2 ns ms hi hj)
    ⟨ho, ho2, show Value.bool (lexLt ns ms) ≠ Value.notImplemented ∧ Q (.bool (lexLt ns ms)) s from ⟨(fun x => nomatch x), h⟩⟩ hu

/-- t + u, t not empty -/
theorem cat_tup {t b : Addr} {vs ws : List Value} {Q : Value → Shared → Prop} (ht : IsTup s.heap t vs.toArray) (hb : IsTup s.heap b ws.toArray) (hv : vs ≠ [])
    (h1 : ws = [] → Q (.ref t) s) (h2 : ws ≠ [] → Q (.ref s.heap.objs.size) { s with heap := s.heap.push { cls := .type "tuple", data := .seq (vs ++ ws).toArray } })
    (hsz : vs.length + ws.length ≤ sizeLine) : wpAny (model prog w) A (binaryOp .Add (.ref t) (.ref b)) Q E s := by
  obtain ⟨⟨cls, dd, data, sl⟩, ho, hc, n, hd⟩ := id ht
  obtain ⟨⟨cls2, dd2, data2, sl2⟩, ho2, hc2, n2, hd2⟩ := id hb
  simp only at hc hd hc2 hd2
  subst hc hd hc2 hd2
  have e : vs.toArray ++ ws.toArray = (vs ++ ws).toArray := by simp
  by_cases hw : ws = []
  · exact concat_meets ⟨_, ho, rfl⟩ ⟨_, ho2, rfl⟩ noFill_tuple_add seq_tuple_add PySem.F.slot_tuple_add PySem.F.entry_tuple_add (PySem.F.args_tuple_add_2 _ _)
      (tuple_addW1 t b vs.toArray ws.toArray n n2 dd dd2 sl sl2 (by simpa using hv) (by simp [hw])) ⟨ho, ho2, h1 hw⟩
  · refine concat_meets ⟨_, ho, rfl⟩ ⟨_, ho2, rfl⟩ noFill_tuple_add seq_tuple_add PySem.F.slot_tuple_add PySem.F.entry_tuple_add (PySem.F.args_tuple_add_2 _ _)
      (tuple_addW2 t b vs.toArray ws.toArray n n2 dd dd2 sl sl2 (by simpa using hv) (by simpa using hw) (by rw [List.size_toArray, List.size_toArray]; exact hsz)) ⟨ho, ho2, ?_⟩
    rw [e]
    exact h2 hw

/-! ### t[a:b], not the whole -/
/-- a slice's bound as a place among n (d where it is left out) -/
def sIx (n d : Nat) : Option Int → Nat
  | none => d
  | some v => if v < 0 then (v + (n : Int)).toNat else min v.toNat n
theorem sIx_le (n d : Nat) (hd : d ≤ n) (o : Option Int) : sIx n d o ≤ n := by
  cases o with
  | none => exact hd
  | some v =>
    show (if v < 0 then (v + (n : Int)).toNat else min v.toNat n) ≤ n
    by_cases hv : v < 0
    · rw [if_pos hv]; omega
    · rw [if_neg hv]; exact Nat.min_le_right _ _
theorem clip_eq (v : Int) (n d : Nat) : (if v < 0 then max (v + (n : Int)) 0 else min v (n : Int)) = ((sIx n d (some v) : Nat) : Int) := by
  show (if v < 0 then max (v + (n : Int)) 0 else min v (n : Int)) = (((if v < 0 then (v + (n : Int)).toNat else min v.toNat n) : Nat) : Int)
  by_cases hv : v < 0
  · simp only [if_pos hv]; omega
  · simp only [if_neg hv]; omega
theorem adjust_gen (lo hi : Option Int) (n : Nat) : Builtin.Slice.sliceAdjust lo hi 1 (n : Int) = (((sIx n 0 lo : Nat) : Int), ((sIx n n hi : Nat) : Int)) := by
  have h1 : ¬ ((1 : Int) < 0) := by omega
  unfold Builtin.Slice.sliceAdjust
  simp only [h1, if_false]
  refine Prod.ext ?_ ?_
  · cases lo with
    | none => rfl
    | some v => exact clip_eq v n 0
  · cases hi with
    | none => rfl
    | some v => exact clip_eq v n n
theorem places_gen (i j : Nat) : Builtin.Slice.slicePlaces (i : Int) (j : Int) 1 = j - i := by
  unfold Builtin.Slice.slicePlaces
  have h1 : (1 : Int) > 0 := by omega
  simp only [h1, if_true, Int.ediv_one]
  split <;> omega
theorem slicePart_ {v : Value} {o : Option Int} {Q : Option Int → Shared → Prop} (p : IsPart v o) (h : Q o s) : wpAny (model prog w) A (Builtin.Slice.slicePartIndex v) Q E s := by
  cases p with
  | none => exact slicePart_none h
  | int i t => exact slicePart_int h
theorem sliceApplied_gen {sl : Addr} {vl vu : Value} {lo hi : Option Int} {n : Nat} {Q : Int × Int × Nat → Shared → Prop} (hs : s.heap.IsSliceOf sl vl vu .none) (pl : IsPart vl lo) (pu : IsPart vu hi)
    (h : Q (((sIx n 0 lo : Nat) : Int), 1, sIx n n hi - sIx n 0 lo) s) : wpAny (model prog w) A (Builtin.Slice.sliceApplied (.ref sl) (pure (n : Int))) Q E s := by
  obtain ⟨os, hos, hcs, hds⟩ := id hs
  unfold Builtin.Slice.sliceApplied Builtin.Slice.sliceFields
  refine wpAny_bind (wpAny_bind (wpAny_field hos hds (x := vl) rfl (wpAny_bind (wpAny_field hos hds (x := vu) rfl (wpAny_bind (wpAny_field hos hds (x := .none) rfl (wpAny_pure ?_)))))))
  refine wpAny_bind (slicePart_none ?_)
  show wpAny _ _ (if ((1 : Int) == 0) = true then _ else _) _ _ s
  rw [if_neg (by decide)]
  refine wpAny_bind (slicePart_ pl (wpAny_bind (slicePart_ pu (wpAny_bind (wpAny_pure ?_)))))
  show wpAny _ _ (match Builtin.Slice.sliceAdjust lo hi 1 (n : Int) with | (lo, hi) => pure (lo, (1 : Int), Builtin.Slice.slicePlaces lo hi 1)) _ _ s
  rw [adjust_gen lo hi n]
  show wpAny _ _ (pure (((sIx n 0 lo : Nat) : Int), (1 : Int), Builtin.Slice.slicePlaces ((sIx n 0 lo : Nat) : Int) ((sIx n n hi : Nat) : Int) 1)) _ _ s
  rw [places_gen]
  exact wpAny_pure h
theorem pick_gen (xs : Array Value) (i k : Nat) : ((List.range k).filterMap fun (m : Nat) => xs[((i : Int) + (m : Int) * 1).toNat]?).toArray = ((xs.toList.drop i).take k).toArray := by
  have e : (fun (m : Nat) => xs[((i : Int) + (m : Int) * 1).toNat]?) = fun m => xs[i + m]? := by
    funext m
    have : ((i : Int) + (m : Int) * 1).toNat = i + m := by omega
    rw [this]
  rw [e]
  have := pick_run xs i k
  rw [List.filterMap_map] at this
  have e2 : ((fun x => xs[x]?) ∘ fun x => i + x) = fun m => xs[i + m]? := rfl
  rw [e2] at this
  rw [this]

theorem getItem_tuple_cut {t sl : Addr} {items : Array Value} {vl vu : Value} {lo hi : Option Int} {Q : Value → Shared → Prop} (ht : IsTup s.heap t items) (hs : s.heap.IsSliceOf sl vl vu .none) (pl : IsPart vl lo) (pu : IsPart vu hi)
    (hw : ¬ (sIx items.size 0 lo = 0 ∧ sIx items.size items.size hi = items.size))
    (h : Q (.ref s.heap.objs.size) { s with heap := s.heap.push { cls := .type "tuple", data := .seq ((items.toList.drop (sIx items.size 0 lo)).take (sIx items.size items.size hi - sIx items.size 0 lo)).toArray } })
    (hsz : items.size ≤ sizeLine) : wpAny (model prog w) A (getItem (.ref t) (.ref sl)) Q E s := by
  have htake : sizeOk (.seq ((items.toList.drop (sIx items.size 0 lo)).take (sIx items.size items.size hi - sIx items.size 0 lo)).toArray) := by
    show ((items.toList.drop (sIx items.size 0 lo)).take (sIx items.size items.size hi - sIx items.size 0 lo)).toArray.size ≤ sizeLine
    rw [List.size_toArray, List.length_take, List.length_drop, Array.length_toList]
    omega
  have hj : sIx items.size items.size hi ≤ items.size := sIx_le _ _ (Nat.le_refl _) hi
  obtain ⟨os, hos, hcs, hds⟩ := id hs
  have hTs : s.TypeIs (.ref sl) "slice" := ⟨os, hos, hcs⟩
  unfold getItem
  try with_reducible refine wpAny_holding ?_
  first | refine wpAny_bind (wpAny_pure ?_) | skip
  refine wpAny_bind (wpAny_sequenceKey ht.typeIs (by decide) ?_)
  refine wpAny_bind (wpAny_callSpecial?_slot (name := Str.ofString "__getitem__") ht.typeIs PyProof.Rows.slot_tuple_getitem
    (wpAny_call_entry PyProof.Rows.slot_tuple_getitem ht.typeIs entry_tuple_getitem ?_ (args_tuple_getitem _ _)))
  show wpAny _ _ (Builtin.Tuple.tupleItemsOf (.ref t) >>= _) _ _ s
  refine wpAny_bind (tupleItemsOf_ ht ?_)
  refine wpAny_bind (wpAny_typeOf hTs ?_)
  rw [if_pos (by decide)]
  refine wpAny_bind (sliceApplied_gen hs pl pu ?_)
  have hno : ¬ ((((sIx items.size 0 lo : Nat) : Int) == 0 && (1 : Int) == 1 && (sIx items.size items.size hi - sIx items.size 0 lo) == items.size) = true) := by
    intro q
    rw [Bool.and_eq_true, Bool.and_eq_true] at q
    have q1 : ((sIx items.size 0 lo : Nat) : Int) = 0 := eq_of_beq q.1.1
    have q2 : sIx items.size items.size hi - sIx items.size 0 lo = items.size := eq_of_beq q.2
    exact hw ⟨by omega, by omega⟩
  show wpAny _ _ (if (((sIx items.size 0 lo : Nat) : Int) == 0 && (1 : Int) == 1 && (sIx items.size items.size hi - sIx items.size 0 lo) == items.size) = true then _ else _) _ _ s
  rw [if_neg hno, pick_gen]
  first
    | exact wpAny_bind (m := Builtin.Tuple.tupleExact _) (wpAny_newObj_type (wpAny_pure ⟨_, rfl, wpAny_pure h⟩) htake)
    | exact wpAny_bind (m := Builtin.Tuple.tupleExact _) (wpAny_newObj_type (wpAny_bind (wpAny_pure (wpAny_pure ⟨_, rfl, wpAny_pure h⟩))) htake)
    | exact wpAny_bind (wpAny_bind (m := Builtin.Tuple.tupleExact _) (wpAny_newObj_type (wpAny_pure (wpAny_pure ⟨_, rfl, wpAny_pure h⟩)) htake))
    | exact wpAny_bind (wpAny_bind (m := Builtin.Tuple.tupleExact _) (wpAny_newObj_type (wpAny_pure ⟨_, rfl, wpAny_pure h⟩) htake))
end
end HT

namespace L2
open PySem PySem.Spec PyProof.Rows

/-! ### the parts of a slice -/
abbrev TO := St → Hp → (Option Int → Hp → Prop) → Prop
/-- a slice's part (left out, or an int) -/
def PO (X : Cx) (e : Option Expr) (t : TO) : Prop :=
  ∀ (pins : List (Addr × Obj)) (s : Shared) (σ : St) (H : Hp) (Q : Option Int → Hp → Prop), Inv X pins σ H s → t σ H Q →
    wpAny (model X.prog X.w) X.A (evalPart e X.env) (fun u s' => ∃ o H', Inv X pins σ H' s' ∧ IsPart u o ∧ Q o H') X.xe s
def tNoPart : TO := fun _ H Q => Q none H
def tPart (t : TE) : TO := fun σ H Q => t σ H fun x H1 => ∃ i, x = .int i ∧ Q (some i) H1

theorem intsAre_of {ns : List Int} : ∀ {us : List Value}, Vals (ns.map V.int) us → IntsAre us ns := by
  induction ns with
  | nil => intro us r; rw [List.map_nil] at r; cases r; exact .nil
  | cons n ns ih =>
    intro us r
    rw [List.map_cons] at r
    cases r with
    | cons r1 r2 =>
      obtain ⟨t, e⟩ := r1
      subst e
      exact .cons n t (ih r2)

section
variable {X : Cx} {e : Expr} {te : TE} {lo hi : Option Expr} {tl th : TO} {pos p2 : Pos}

theorem po_none : PO X none tNoPart := by
  intro pins s σ H Q I h
  rw [evalPart_none]
  exact wpAny_pure ⟨none, H, I, .none, h⟩
theorem po_some (h : PE X e te) : PO X (some e) (tPart te) := by
  intro pins s σ H Q I hw
  rw [evalPart_some]
  refine thn (h pins s σ H _ I hw) fun u s1 ⟨x, H1, I1, r1, q1⟩ => ?_
  obtain ⟨i, rfl, q⟩ := q1
  obtain ⟨t, rfl⟩ := r1
  exact ⟨some i, H1, I1, .int i t, q⟩

/-- what a slice of a value is, by values: the slice object stands at sl -/
def SlR (X : Cx) (r : V → Option Int → Option Int → Hp → VK → Prop) : Prop :=
  ∀ (pins : List (Addr × Obj)) (s : Shared) (σ : St) (H : Hp) (x : V) (v vl vu : Value) (lo hi : Option Int) (sl : Addr) (Q : VK), Inv X pins σ H s → RelV x v → s.heap.IsSliceOf sl vl vu .none → IsPart vl lo → IsPart vu hi → r x lo hi H Q →
    ∃ T id, typeLookup (.type T) "__getitem__" = pure (some (.builtin id)) ∧ s.TypeIs v T ∧ wpAny (model X.prog X.w) X.A (getItem v (.ref sl)) (EP X pins σ Q) X.xe s
theorem SlR.or {r r' : V → Option Int → Option Int → Hp → VK → Prop} (h : SlR X r) (h' : SlR X r') : SlR X (fun x lo hi H Q => r x lo hi H Q ∨ r' x lo hi H Q) := by
  intro pins s σ H x v vl vu lo hi sl Q I rx hs pl pu q
  rcases q with q | q
  · exact h pins s σ H x v vl vu lo hi sl Q I rx hs pl pu q
  · exact h' pins s σ H x v vl vu lo hi sl Q I rx hs pl pu q
def tSl (r : V → Option Int → Option Int → Hp → VK → Prop) (te : TE) (tl th : TO) : TE := fun σ H Q => te σ H fun x H1 => tl σ H1 fun l H2 => th σ H2 fun u H3 => r x l u H3 Q
/-- a[lo:hi], any a -/
theorem pe_slice {r : V → Option Int → Option Int → Hp → VK → Prop} (hr : SlR X r) (he : PE X e te) (hl : PO X lo tl) (hu : PO X hi th) : PE X (.Subscript e (.Slice lo hi none p2) pos) (tSl r te tl th) := by
  intro pins s σ H Q I h
  refine Subscript_ (thn (he pins s σ H _ I h) fun v s1 ⟨x, H1, I1, r1, q1⟩ => ?_)
  refine wpAny_Slice (thn (hl pins s1 σ H1 _ I1 q1) fun vl s2 ⟨l, H2, I2, pl, q2⟩ => thn (hu pins s2 σ H2 _ I2 q2) fun vu s3 ⟨u, H3, I3, pu, q3⟩ => ?_)
  rw [evalPart_none]
  refine wpAny_pure ?_
  have I4 : Inv X pins σ H3 { s3 with heap := s3.heap.push { cls := .type "slice", data := .fields #[vl, vu, .none] } } := I3.kept (t' := s3.toks) fun b ob q => Heap.get?_push_of_some _ q
  obtain ⟨T, id, hT, ht, hg⟩ := hr pins { s3 with heap := s3.heap.push { cls := .type "slice", data := .fields #[vl, vu, .none] } } σ H3 x v vl vu l u s3.heap.objs.size Q I4 r1 (Heap.IsSliceOf.new ..) pl pu q3
  show wpAny (model X.prog X.w) X.A (subscriptTail e (.Slice lo hi none p2) v (.ref s3.heap.objs.size)) (EP X pins σ Q) X.xe { s3 with heap := s3.heap.push { cls := .type "slice", data := .fields #[vl, vu, .none] } }
  exact tail_any (ops := [.ref s3.heap.objs.size, v]) ht hT hg (by with_unfolding_all rfl)

/-- the items of xs[lo:hi] -/
def cutV (xs : List V) (lo hi : Option Int) : List V := (xs.drop (HT.sIx xs.length 0 lo)).take (HT.sIx xs.length xs.length hi - HT.sIx xs.length 0 lo)
theorem cutV_length (xs : List V) (lo hi : Option Int) : (cutV xs lo hi).length ≤ xs.length := by
  unfold cutV
  rw [List.length_take, List.length_drop]
  omega
/-- t[lo:hi], not the whole of it (the whole would be t itself) -/
def rSlT (K : PySem.W.Frag) : V → Option Int → Option Int → Hp → VK → Prop := fun x lo hi H Q => ∃ a xs, x = .ref a ∧ SqT K H a xs ∧
  ¬ (HT.sIx xs.length 0 lo = 0 ∧ HT.sIx xs.length xs.length hi = xs.length) ∧ ∀ p, H p = none → Q (.ref p) (upd H p (.tup (cutV xs lo hi)))
theorem sl_tup : SlR X (rSlT X.K) := by
  intro pins s σ H x v vl vu lo hi sl Q I rx hs pl pu h
  obtain ⟨a, xs, rfl, hx, hw, q⟩ := h
  cases rx
  obtain ⟨its, r, ht, hz⟩ := I.tuple hx
  have hlen : its.toArray.size = xs.length := by rw [List.size_toArray]; exact r.length.symm
  refine ⟨"tuple", _, PyProof.Rows.slot_tuple_getitem.lookup, ht.typeIs, ?_⟩
  refine HT.getItem_tuple_cut ht hs pl pu (by rw [hlen]; exact hw) ?_ (by rw [hlen]; exact hz)
  rw [hlen]
  refine ⟨.ref s.heap.objs.size, _, I.laid (t' := s.toks) (o := .tup (cutV xs lo hi)) (fun b ob q => Heap.get?_push_of_some _ q) (Nat.le_refl _) ?_, rfl, q _ (I.hok.fresh (Nat.le_refl _))⟩
  exact ⟨Nat.le_trans (cutV_length xs lo hi) hz, _, (r.drop (HT.sIx xs.length 0 lo)).take (HT.sIx xs.length xs.length hi - HT.sIx xs.length 0 lo), IsTup.new _ _⟩

/-- t + u, t not empty: u empty gives t itself -/
def rCatT (K : PySem.W.Frag) : R2 := fun x y H Q => ∃ a b xs ys, x = .ref a ∧ y = .ref b ∧ SqT K H a xs ∧ SqT K H b ys ∧ xs ≠ [] ∧ xs.length + ys.length ≤ sizeLine ∧
  (ys = [] → Q (.ref a) H) ∧ (ys ≠ [] → ∀ p, H p = none → Q (.ref p) (upd H p (.tup (xs ++ ys))))
theorem Vals.nil_iff {xs : List V} {us : List Value} (r : Vals xs us) : us = [] ↔ xs = [] := by
  cases r with
  | nil => simp
  | cons _ _ => simp
theorem op_catT : OpR X (binaryOp .Add) (rCatT X.K) := by
  intro pins s σ H x y v u Q I rx ry h
  obtain ⟨a, b, xs, ys, rfl, rfl, ha, hb, hx, hz, q1, q2⟩ := h
  cases rx
  cases ry
  obtain ⟨its, r1, p1, _⟩ := I.tuple ha
  obtain ⟨its2, r2, p2, _⟩ := I.tuple hb
  refine HT.cat_tup p1 p2 (fun z => hx (r1.nil_iff.mp z)) (fun z => ⟨.ref a, H, I, rfl, q1 (r2.nil_iff.mp z)⟩) (fun z => ?_) (by rw [← r1.length, ← r2.length]; exact hz)
  refine ⟨.ref s.heap.objs.size, _, I.laid (t' := s.toks) (o := .tup (xs ++ ys)) (fun b ob q => Heap.get?_push_of_some _ q) (Nat.le_refl _) ?_, rfl, q2 (fun w => z (r2.nil_iff.mpr w)) _ (I.hok.fresh (Nat.le_refl _))⟩
  exact ⟨by rw [List.length_append]; exact hz, _, r1.append r2, IsTup.new _ _⟩
end
end L2

namespace L2
open PySem PySem.Spec PyProof.Rows

/-! ### places -/
/-- the place that an index of any sign means -/
def ixN (n : Nat) (i : Int) : Option Nat := if 0 ≤ i then (if i < n then some i.toNat else none) else if -(n : Int) ≤ i then some (i + n).toNat else none
def atI {α : Type} (xs : List α) (i : Int) : Option α := (ixN xs.length i).bind fun j => xs[j]?
theorem ixN_seq {n : Nat} {i : Int} {j : Nat} (h : ixN n i = some j) : seqIndex? i n = some j ∧ j < n ∧ -(n : Int) ≤ i ∧ i < n := by
  unfold ixN at h
  by_cases h0 : 0 ≤ i
  · rw [if_pos h0] at h
    by_cases h1 : i < n
    · rw [if_pos h1] at h
      have e : i.toNat = j := Option.some.inj h
      exact ⟨by rw [seqIndex_of h0 h1, e], by omega, by omega, h1⟩
    · rw [if_neg h1] at h; cases h
  · rw [if_neg h0] at h
    by_cases h1 : -(n : Int) ≤ i
    · rw [if_pos h1] at h
      have e : (i + n).toNat = j := Option.some.inj h
      exact ⟨by rw [seqIndex_neg (by omega) h1, e], by omega, h1, by omega⟩
    · rw [if_neg h1] at h; cases h
theorem atI_get {α : Type} {xs : List α} {i : Int} {v : α} (h : atI xs i = some v) : ∃ j, seqIndex? i xs.length = some j ∧ xs[j]? = some v ∧ j < xs.length ∧ -(xs.length : Int) ≤ i ∧ i < xs.length := by
  unfold atI at h
  cases e : ixN xs.length i with
  | none => rw [e] at h; cases h
  | some j =>
    rw [e] at h
    obtain ⟨h1, h2, h3, h4⟩ := ixN_seq e
    exact ⟨j, h1, h, h2, h3, h4⟩
/-! ### what may be subscripted -/
/-- what stands as an index of a plain subscript -/
def PlainIx (b : Expr) : Prop := ∀ o i, subscripted b false o i = operate [o, i] (getItem o i)
/-- a subscript by values -/
def IxR (X : Cx) (r : R2) : Prop :=
  ∀ (value slice : Expr) (pins : List (Addr × Obj)) (s : Shared) (σ : St) (H : Hp) (x y : V) (v u : Value) (Q : VK), Inv X pins σ H s → RelV x v → RelV y u → r x y H Q →
    subscripted slice false v u = operate [v, u] (getItem v u) → wpAny (model X.prog X.w) X.A (subscriptTail value slice v u) (EP X pins σ Q) X.xe s
/-- a call of a builtin's method by values: the receiver, the arguments -/
def MtR (X : Cx) (id : String) (r : V → List V → Hp → VK → Prop) : Prop :=
  ∀ (pins : List (Addr × Obj)) (s : Shared) (σ : St) (H : Hp) (x : V) (xs : List V) (v : Value) (us : List Value) (Q : VK), Inv X pins σ H s → RelV x v → Vals xs us → r x xs H Q →
    wpAny (model X.prog X.w) X.A (call (.builtin id) (v :: us)) (EP X pins σ Q) X.xe s
section
variable {X : Cx} {a b : Expr} {ta tb : TE} {pos : Pos}
theorem IxR.or {r r' : R2} (h : IxR X r) (h' : IxR X r') : IxR X (fun x y H Q => r x y H Q ∨ r' x y H Q) := by
  intro value slice pins s σ H x y v u Q I rx ry q hs
  rcases q with q | q
  · exact h value slice pins s σ H x y v u Q I rx ry q hs
  · exact h' value slice pins s σ H x y v u Q I rx ry q hs
theorem MtR.or {id : String} {r r' : V → List V → Hp → VK → Prop} (h : MtR X id r) (h' : MtR X id r') : MtR X id (fun x xs H Q => r x xs H Q ∨ r' x xs H Q) := by
  intro pins s σ H x xs v us Q I rx rs q
  rcases q with q | q
  · exact h pins s σ H x xs v us Q I rx rs q
  · exact h' pins s σ H x xs v us Q I rx rs q
/-- a[b] -/
theorem pe_ix {r : R2} (hr : IxR X r) (ha : PE X a ta) (hb : PE X b tb) (hs : PlainIx b) : PE X (.Subscript a b pos) (tOp r ta tb) := by
  intro pins s σ H Q I h
  exact Subscript_ (binT ha hb I h fun v u s2 x y H2 I2 rx ry q => hr a b pins s2 σ H2 x y v u Q I2 rx ry q (hs _ _))

def rIxL (K : PySem.W.Frag) : R2 := fun x y H Q => ∃ p xs i v, x = .ref p ∧ y = .int i ∧ SqL K H p xs ∧ atI xs i = some v ∧ Q v H
def rIxT (K : PySem.W.Frag) : R2 := fun x y H Q => ∃ p xs i v, x = .ref p ∧ y = .int i ∧ SqT K H p xs ∧ atI xs i = some v ∧ Q v H
def rIxS : R2 := fun x y H Q => ∃ z i c, x = .str z ∧ y = .int i ∧ z.length ≤ sizeLine ∧ atI z.cps.toList i = some c ∧ Q (.str ⟨#[c]⟩) H
theorem ix_list : IxR X (rIxL X.K) := by
  intro value slice pins s σ H x y v u Q I rx ry h hs
  obtain ⟨p, xs, i, z, rfl, rfl, hq, he, q⟩ := h
  cases rx
  obtain ⟨t, rfl⟩ := ry
  obtain ⟨its, r, pl, hz⟩ := I.list hq
  obtain ⟨j, h1, h2, h3, h4, h5⟩ := atI_get he
  obtain ⟨w, ew, rw'⟩ := r.get h2
  have hl := r.length
  have hn := line63
  have fin : EP X pins σ Q w s := ⟨z, H, I, rw', q⟩
  by_cases h0 : 0 ≤ i
  · have hj : i.toNat = j := by
      rw [seqIndex_of h0 h5] at h1
      exact Option.some.inj h1
    exact item_listR pl.isList h0 (by omega) (by rw [hj]; simpa using ew) fin hs
  · have hj : (i + (its.toArray.size : Int)).toNat = j := by
      rw [seqIndex_neg (by omega) h4] at h1
      rw [List.size_toArray, ← hl]
      exact Option.some.inj h1
    exact subscriptTail_builtinR (x := w) pl.isList.typeIs slot_list_getitem.lookup
      (wpAny_getItem_list_neg (Q := fun r s' => r = w ∧ EP X pins σ Q r s') pl.isList (by omega) (by rw [List.size_toArray] <;> omega) (by omega) (by rw [hj]; simpa using ew) ⟨rfl, fin⟩) hs
theorem ix_tup : IxR X (rIxT X.K) := by
  intro value slice pins s σ H x y v u Q I rx ry h hs
  obtain ⟨p, xs, i, z, rfl, rfl, hq, he, q⟩ := h
  cases rx
  obtain ⟨t, rfl⟩ := ry
  obtain ⟨its, r, pl, hz⟩ := I.tuple hq
  obtain ⟨j, h1, h2, h3, h4, h5⟩ := atI_get he
  obtain ⟨w, ew, rw'⟩ := r.get h2
  have hl := r.length
  have hn := line63
  have fin : EP X pins σ Q w s := ⟨z, H, I, rw', q⟩
  exact subscriptTail_builtinR (x := w) pl.typeIs slot_tuple_getitem.lookup
    (getItem_tuple (j := j) (Q := fun r s' => r = w ∧ EP X pins σ Q r s') pl (by omega) (by omega) (by rw [List.size_toArray, ← hl]; exact h1) (by simpa using ew) ⟨rfl, fin⟩) hs
theorem ix_str : IxR X rIxS := by
  intro value slice pins s σ H x y v u Q I rx ry h hs
  obtain ⟨z, i, c, rfl, rfl, hz, he, q⟩ := h
  obtain ⟨t, rfl⟩ := rx
  obtain ⟨t', rfl⟩ := ry
  obtain ⟨j, h1, h2, h3, h4, h5⟩ := atI_get he
  have hl : z.cps.toList.length = z.length := by simp [Str.length]
  rw [hl] at h1 h4 h5
  have hn := line63
  exact tail_any (typeIs_str s z t) slot_str_getitem.lookup (getItem_str (c := c) (by
    have e1 : decide (i < -(2 ^ 63 : Int)) = false := decide_eq_false (by omega)
    have e2 : decide (i ≥ 2 ^ 63) = false := decide_eq_false (by omega)
    rw [e1, e2, Bool.or_false]) (by rw [h1]; simpa using h2) ⟨.str ⟨#[c]⟩, H, I.tok _, ⟨_, rfl⟩, q⟩) hs
/-- list, tuple or str -/
def rIx (K : PySem.W.Frag) : R2 := fun x y H Q => rIxL K x y H Q ∨ rIxT K x y H Q ∨ rIxS x y H Q
theorem ix_seq : IxR X (rIx X.K) := ix_list.or (ix_tup.or ix_str)

theorem Inv.lst {pins : List (Addr × Obj)} {σ : St} {H : Hp} {s : Shared} {p : Addr} {xs : List V} (I : Inv X pins σ H s) (h : H p = some (.lst xs)) :
    ∃ (its : List Value) (n : Nat), Vals xs its ∧ s.heap.get? p = some { cls := .type "list", data := .seq its.toArray n } ∧ xs.length ≤ sizeLine := by
  obtain ⟨z, its, n, r, e⟩ := I.hok p _ h
  exact ⟨its, n, r, e, z⟩
/-! ### slices -/
theorem slice_bounds (lo hi : Option Int) (n : Nat) : (sliceBounds lo hi none n).1 = ((HT.sIx n 0 lo : Nat) : Int) ∧ (sliceBounds lo hi none n).2.1 = ((HT.sIx n n hi : Nat) : Int) ∧ (sliceBounds lo hi none n).2.2 = 1 := by
  refine ⟨?_, ?_, rfl⟩
  · cases lo with
    | none => simp [sliceBounds, HT.sIx]
    | some i =>
      simp only [sliceBounds, HT.sIx, Option.getD_none, show (1 : Int) > 0 by decide, if_true]
      by_cases h : i < 0
      · simp only [h, if_true] <;> omega
      · simp only [h, if_false] <;> omega
  · cases hi with
    | none => simp [sliceBounds, HT.sIx]
    | some i =>
      simp only [sliceBounds, HT.sIx, Option.getD_none, show (1 : Int) > 0 by decide, if_true]
      by_cases h : i < 0
      · simp only [h, if_true] <;> omega
      · simp only [h, if_false] <;> omega
theorem slicePick_cut (its : List Value) (lo hi : Option Int) : slicePick its.toArray lo hi none = ((its.drop (HT.sIx its.length 0 lo)).take (HT.sIx its.length its.length hi - HT.sIx its.length 0 lo)).toArray := by
  obtain ⟨h1, h2, h3⟩ := slice_bounds lo hi its.toArray.size
  unfold slicePick
  rw [h1, h2, h3]
  simp only [sliceRange_one, pick_run, List.size_toArray] <;> rfl
/-- xs[lo:hi] of a list: a new list -/
def rSlL (K : PySem.W.Frag) : V → Option Int → Option Int → Hp → VK → Prop := fun x lo hi H Q => ∃ a xs, x = .ref a ∧ SqL K H a xs ∧ ∀ p, H p = none → Q (.ref p) (upd H p (.lst (cutV xs lo hi)))
theorem sl_list : SlR X (rSlL X.K) := by
  intro pins s σ H x v vl vu lo hi sl Q I rx hs pl pu h
  obtain ⟨a, xs, rfl, hx, q⟩ := h
  cases rx
  obtain ⟨its, r, ht, hz⟩ := I.list hx
  have hlen := r.length
  refine ⟨"list", _, slot_list_getitem.lookup, ht.isList.typeIs, ?_⟩
  refine wpAny_getItem_list_slice ht.isList hs pl pu .none (by simp) ?_ (by rw [List.size_toArray] <;> omega)
  rw [slicePick_cut, ← hlen]
  refine ⟨.ref s.heap.objs.size, _, I.laid (t' := s.toks) (o := .lst (cutV xs lo hi)) (fun b ob q => Heap.get?_push_of_some _ q) (Nat.le_refl _) ?_, rfl, q _ (I.hok.fresh (Nat.le_refl _))⟩
  exact ⟨Nat.le_trans (cutV_length xs lo hi) hz, _, 0, (r.drop (HT.sIx xs.length 0 lo)).take (HT.sIx xs.length xs.length hi - HT.sIx xs.length 0 lo), Heap.get?_push_size _ rfl⟩

/-! ### len, list(x), tuple(x) of any list or tuple that is read -/
theorem call_len_seq : CallR X (.builtin "len") (fun xs H Q => ∃ p ys, xs = [.ref p] ∧ (SqL X.K H p ys ∨ SqT X.K H p ys) ∧ Q (.int ys.length) H) := by
  intro pins s σ H xs us Q I r h
  obtain ⟨p, ys, rfl, hq, q⟩ := h
  obtain ⟨u, rfl, rx⟩ := vals1 r
  cases rx
  have hn := line63
  rcases hq with hq | hq
  · obtain ⟨its, r', pl, hz⟩ := I.list hq
    have hlen := r'.length
    exact Calls.call_len_list pl.isList (by simp only [List.size_toArray] <;> omega) ⟨.int ys.length, H, I.tok _, ⟨s.toks + 1, by rw [List.size_toArray, hlen]⟩, q⟩
  · obtain ⟨its, r', pl, hz⟩ := I.tuple hq
    have hlen := r'.length
    exact len_tuple pl (by simp only [List.size_toArray] <;> omega) ⟨.int ys.length, H, I.tok _, ⟨s.toks + 1, by rw [List.size_toArray, hlen]⟩, q⟩
theorem call_len_str : CallR X (.builtin "len") (fun xs H Q => ∃ z, xs = [.str z] ∧ z.length ≤ sizeLine ∧ Q (.int z.length) H) := by
  intro pins s σ H xs us Q I r h
  obtain ⟨z, rfl, hz, q⟩ := h
  obtain ⟨u, rfl, t, rfl⟩ := vals1 r
  have hn := line63
  exact len_str (by omega) ⟨.int z.length, H, I.tok _, ⟨_, rfl⟩, q⟩
theorem CallR.or {f : Value} {r r' : List V → Hp → VK → Prop} (h : CallR X f r) (h' : CallR X f r') : CallR X f (fun xs H Q => r xs H Q ∨ r' xs H Q) := by
  intro pins s σ H xs us Q I rs q
  rcases q with q | q
  · exact h pins s σ H xs us Q I rs q
  · exact h' pins s σ H xs us Q I rs q
theorem call_list_of : CallR X (.type "list") (fun xs H Q => ∃ p ys, xs = [.ref p] ∧ (SqL X.K H p ys ∨ SqT X.K H p ys) ∧ ∀ l, H l = none → Q (.ref l) (upd H l (.lst ys))) := by
  intro pins s σ H xs us Q I r h
  obtain ⟨p, ys, rfl, hq, q⟩ := h
  obtain ⟨u, rfl, rx⟩ := vals1 r
  cases rx
  have fin : ∀ (its : List Value), Vals ys its → ys.length ≤ sizeLine → ∀ (h' : Heap) (c' : Nat), (∀ b o', s.heap.get? b = some o' → h'.get? b = some o') →
      h'.get? s.heap.objs.size = some { cls := .type "list", dict := none, data := .seq its.toArray c', slots := #[] } → EP X pins σ Q (.ref s.heap.objs.size) { s with heap := h' } := fun its r' hz h' c' kp e =>
    ⟨.ref s.heap.objs.size, _, I.laid (t' := s.toks) kp (Nat.le_refl _) (show ObjOk X.prog X.w _ h' _ (.lst ys) from ⟨hz, its, c', r', e⟩), rfl, q _ (I.hok.fresh (Nat.le_refl _))⟩
  rcases hq with hq | hq
  · obtain ⟨its, r', pl, hz⟩ := I.list hq
    have hlen := r'.length
    obtain ⟨o, ho, hc, n, hd⟩ := pl.isList
    exact call_list_seq p (.inl rfl) ho hc hd (fun h' c' kp e => fin its r' hz h' c' kp e) (by simp only [List.size_toArray] <;> omega)
  · obtain ⟨its, r', pl, hz⟩ := I.tuple hq
    have hlen := r'.length
    obtain ⟨o, ho, hc, n, hd⟩ := pl
    exact call_list_seq p (.inr rfl) ho hc hd (fun h' c' kp e => fin its r' hz h' c' kp e) (by simp only [List.size_toArray] <;> omega)
theorem call_tuple_of : CallR X (.type "tuple") (fun xs H Q => ∃ p ys, xs = [.ref p] ∧ ((SqL X.K H p ys ∧ ∀ l, H l = none → Q (.ref l) (upd H l (.tup ys))) ∨ (SqT X.K H p ys ∧ Q (.ref p) H))) := by
  intro pins s σ H xs us Q I r h
  obtain ⟨p, ys, rfl, h⟩ := h
  obtain ⟨u, rfl, rx⟩ := vals1 r
  cases rx
  rcases h with ⟨hq, q⟩ | ⟨hq, q⟩
  · obtain ⟨its, r', pl, hz⟩ := I.list hq
    have hlen := r'.length
    refine call_tuple_list pl.isList (fun h' kp => ?_) (by simp only [List.size_toArray] <;> omega)
    have I1 : Inv X pins σ H { s with heap := h' } := I.kept (t' := s.toks) kp
    have I2 : Inv X pins σ (upd H h'.objs.size (.tup ys)) { s with heap := h'.push { cls := .type "tuple", data := .seq its.toArray } } :=
      I1.laid (t' := s.toks) (fun b o e => Heap.get?_push_of_some _ e) (Nat.le_refl _) (show ObjOk X.prog X.w _ _ _ (.tup ys) from ⟨hz, its, r', IsTup.new _ _⟩)
    exact ⟨.ref h'.objs.size, _, I2, rfl, q _ (I1.hok.fresh (Nat.le_refl _))⟩
  · obtain ⟨its, r', pl, hz⟩ := I.tuple hq
    exact call_tuple_same pl ⟨.ref p, H, I, rfl, q⟩

/-! ### the call of a builtin's method: o.m(..) -/
/-- the value is of that builtin type -/
def tyV (K : PySem.W.Frag) (T : String) (x : V) (H : Hp) : Prop := match x with
  | .str _ => T = "str"
  | .int _ => T = "int"
  | .ref p => (T = "list" ∧ ∃ xs, SqL K H p xs) ∨ (T = "tuple" ∧ ∃ o, K.lookup p = some o ∧ o.cls = .type "tuple" ∧ o.dict = none) ∨
      (T = "dict" ∧ ((∃ kvs, H p = some (.dK kvs)) ∨ ∃ kvs, H p = some (.dT kvs))) ∨ (T = "set" ∧ ∃ S n, H p = some (.set S n))
  | _ => False
theorem tyV_is {pins : List (Addr × Obj)} {σ : St} {H : Hp} {s : Shared} {T : String} {x : V} {v : Value} (I : Inv X pins σ H s) (r : RelV x v) (ty : tyV X.K T x H) :
    s.TypeIs v T ∧ ∀ a, v = .ref a → ∃ ob, s.heap.get? a = some ob ∧ ob.dict = none := by
  cases x with
  | str z =>
    obtain ⟨t, rfl⟩ := r
    cases (show T = "str" from ty)
    exact ⟨typeIs_str s z t, fun _ e => nomatch e⟩
  | int i =>
    obtain ⟨t, rfl⟩ := r
    cases (show T = "int" from ty)
    exact ⟨typeIs_int s i t, fun _ e => nomatch e⟩
  | ref p =>
    cases r
    rcases ty with ⟨rfl, xs, hq⟩ | ⟨rfl, o, hk, hc, hd⟩ | ⟨rfl, hk⟩ | ⟨rfl, S, n, hk⟩
    · obtain ⟨its, _, pl, _⟩ := I.list hq
      refine ⟨pl.isList.typeIs, fun a e => ?_⟩
      cases e
      obtain ⟨o, n, e, c, hd, _⟩ := pl
      exact ⟨o, e, hd⟩
    · refine ⟨⟨o, I.kIn p o hk, hc⟩, fun a e => ?_⟩
      cases e
      exact ⟨o, I.kIn _ o hk, hd⟩
    · have z : ∃ o, s.heap.get? p = some o ∧ o.ExactDict := by
        rcases hk with ⟨kvs, hk⟩ | ⟨kvs, hk⟩
        · obtain ⟨_, _, _, _, o, _, _, e, ex, _⟩ := I.hok p _ hk
          exact ⟨o, e, ex⟩
        · obtain ⟨_, _, _, _, o, _, _, e, ex, _⟩ := I.hok p _ hk
          exact ⟨o, e, ex⟩
      obtain ⟨o, e, ex⟩ := z
      refine ⟨⟨o, e, ex.1⟩, fun a e2 => ?_⟩
      cases e2
      exact ⟨o, e, ex.2.1⟩
    · obtain ⟨o, _, _, _, e, ex, _⟩ := I.hok p _ hk
      refine ⟨⟨o, e, ex.1⟩, fun a e2 => ?_⟩
      cases e2
      exact ⟨o, e, ex.2.1⟩
  | _ => exact False.elim ty
def tBM0 (K : PySem.W.Frag) (T : String) (r : V → List V → Hp → VK → Prop) (to : TE) : TE := fun σ H Q => to σ H fun x H1 => tyV K T x H1 ∧ r x [] H1 Q
def tBM (K : PySem.W.Frag) (T : String) (r : V → List V → Hp → VK → Prop) (to : TE) (t : TA) : TE := fun σ H Q => to σ H fun x H1 => tyV K T x H1 ∧ t σ H1 fun xs H2 => r x xs H2 Q
variable {o e : Expr} {es : List Expr} {to : TE} {t : TA} {name : Str} {apos cpos : Pos} {T id : String} {r : V → List V → Hp → VK → Prop}
theorem pe_bm0 (pa : PlainAttrs T) (slot : Slot T name id) (hty : typeOf (.builtin id) = pure (.type "method_descriptor")) (hm : MtR X id r) (ho : PE X o to)
    (hbase : attributeBase o name X.env (eval o X.env) = eval o X.env := by rfl) (hline : (apos.endLine == cpos.line) = true := by rfl) : PE X (.Call (.Attribute o name apos) [] [] cpos) (tBM0 X.K T r to) := by
  intro pins s σ H Q I h
  refine wpAny_Call_method0_late hbase hline (thn (ho pins s σ H _ I h) fun v s1 ⟨x, H1, I1, r1, ty, q1⟩ => ?_)
  obtain ⟨h1, h2⟩ := tyV_is I1 r1 ty
  exact ⟨T, id, pa, slot, hty, h1, h2, Calls.callWith_builtin rfl (PySem.evalArgs_none (hm pins s1 σ H1 x [] v [] Q I1 r1 .nil q1))⟩
theorem pe_bm (pa : PlainAttrs T) (slot : Slot T name id) (hty : typeOf (.builtin id) = pure (.type "method_descriptor")) (hm : MtR X id r) (ho : PE X o to) (ha : PA X (e :: es) t)
    (hbase : attributeBase o name X.env (eval o X.env) = eval o X.env := by rfl)
    (hfew : ((backTo cpos (starEach (e :: es) X.env)).all (fun x => !x.1) && (backToKw cpos (keywordEach [] X.env)).all (fun x => x.1.isSome)
      && decide ((e :: es).length + ([] : List Keyword).length + (if ([] : List Keyword).isEmpty then 0 else 1) < 30)) = true := by rfl)
    (hline : (apos.endLine == cpos.line) = true := by rfl) (hs : starEach (e :: es) X.env = (false, eval e X.env) :: starEach es X.env := by rfl) (hplain : (backTo cpos (starEach es X.env)).any (·.1) = false := by rfl) :
    PE X (.Call (.Attribute o name apos) (e :: es) [] cpos) (tBM X.K T r to t) := by
  intro pins s σ H Q I h
  refine wpAny_Call_method_late hbase hfew hline rfl (thn (ho pins s σ H _ I h) fun v s1 ⟨x, H1, I1, r1, ty, q1⟩ => ?_)
  obtain ⟨h1, h2⟩ := tyV_is I1 r1 ty
  refine ⟨T, id, pa, slot, hty, h1, h2, ?_⟩
  have hA := ha cpos pins s1 σ H1 _ I1 q1
  rw [hs] at hA ⊢
  refine Calls.callWith_builtin (by show (false || (backTo cpos (starEach es X.env)).any (·.1)) = false; rw [hplain] <;> rfl) (Calls.evalArgs_plain ?_)
  exact thn hA fun us s2 ⟨vs, H2, I2, r2, q2⟩ => hm pins s2 σ H2 x vs v us Q I2 r1 r2 q2
/- xs.append(e), list.index on a module's tuple .. are MtR facts of 06m -/
end
end L2

namespace L2
open PySem PySem.Spec PyProof.Rows

def MtM (X : Cx) (id : String) (r : V → List V → Hp → VK → Prop) : Prop :=
  ∀ (pins : List (Addr × Obj)) (s : Shared) (σ : St) (H : Hp) (x : V) (xs : List V) (v : Value) (us : List Value) (Q : VK), Inv X pins σ H s → RelV x v → Vals xs us → r x xs H Q →
    wpAny (model X.prog X.w) X.A (call (.builtin id) (v :: us)) (EP X pins σ Q) X.xe s

/-! ### lists of values -/
theorem Vals.one : ∀ {x : V} {us : List Value}, Vals [x] us → ∃ u, us = [u] ∧ RelV x u
  | _, _, .cons r .nil => ⟨_, rfl, r⟩
theorem Vals.two : ∀ {x y : V} {us : List Value}, Vals [x, y] us → ∃ u v, us = [u, v] ∧ RelV x u ∧ RelV y v
  | _, _, _, .cons r (.cons q .nil) => ⟨_, _, rfl, r, q⟩
theorem Vals.zero : ∀ {us : List Value}, Vals [] us → us = []
  | _, .nil => rfl
theorem Vals.dropLast {xs : List V} {us : List Value} (h : Vals xs us) : Vals xs.dropLast us.dropLast := by
  induction h with
  | nil => exact .nil
  | cons r t ih =>
    cases t with
    | nil => exact .nil
    | cons q t' => exact .cons r ih
theorem Vals.eraseIdx : ∀ {xs : List V} {us : List Value} (i : Nat), Vals xs us → Vals (xs.eraseIdx i) (us.eraseIdx i)
  | _, _, _, .nil => .nil
  | _, _, 0, .cons _ t => t
  | _, _, i + 1, .cons r t => .cons r (Vals.eraseIdx i t)
theorem Vals.reverse {xs : List V} {us : List Value} (h : Vals xs us) : Vals xs.reverse us.reverse := by
  induction h with
  | nil => exact .nil
  | cons r t ih => rw [List.reverse_cons, List.reverse_cons]; exact Vals.append ih (.cons r .nil)
theorem Vals.rep {xs : List V} {us : List Value} (h : Vals xs us) : ∀ k : Nat, Vals (List.replicate k xs).flatten (List.replicate k us).flatten
  | 0 => .nil
  | k + 1 => by
    rw [List.replicate_succ, List.replicate_succ, List.flatten_cons, List.flatten_cons]
    exact Vals.append h (Vals.rep h k)
theorem erase_last {α : Type} (l : List α) : l.eraseIdx (l.length - 1) = l.dropLast := by
  induction l with
  | nil => rfl
  | cons a r ih =>
    cases r with
    | nil => rfl
    | cons b r =>
      have e : (a :: b :: r).length - 1 = ((b :: r).length - 1) + 1 := by
        have h1 : (a :: b :: r).length = r.length + 2 := rfl
        have h2 : (b :: r).length = r.length + 1 := rfl
        omega
      rw [e, List.eraseIdx_cons_succ, ih]
      all_goals rfl
theorem len_erase {α : Type} : ∀ (l : List α) (i : Nat), (l.eraseIdx i).length ≤ l.length
  | [], _ => Nat.le_refl _
  | _ :: _, 0 => Nat.le_succ _
  | _ :: r, i + 1 => Nat.succ_le_succ (len_erase r i)
theorem foldl_rep (its : List Value) : ∀ (k : Nat) (acc : List Value),
    List.foldl (fun x1 x2 => x1 ++ x2) acc.toArray (List.replicate k its.toArray) = (acc ++ (List.replicate k its).flatten).toArray
  | 0, acc => by simp
  | k + 1, acc => by
    have e : acc.toArray ++ its.toArray = (acc ++ its).toArray := by simp
    have e2 : (acc ++ its) ++ (List.replicate k its).flatten = acc ++ (List.replicate (k + 1) its).flatten := by
      rw [List.replicate_succ, List.flatten_cons, List.append_assoc]
    rw [← e2, ← foldl_rep its k (acc ++ its), ← e, List.replicate_succ, List.foldl_cons]

section
variable {X : Cx} {pins : List (Addr × Obj)} {σ : St} {H : Hp} {s : Shared} {l b : Addr} {xs ys zs : List V}

/-! ### the two steps: a tracked list is rewritten, a new list is laid -/
theorem Inv.lset {its its' : List Value} {n : Nat} {f : Array Value → Array Value} {t' : Nat} (I : Inv X pins σ H s) (hH : H l = some (.lst xs))
    (e : s.heap.get? l = some { cls := .type "list", data := .seq its.toArray n }) (hf : f its.toArray = its'.toArray) (hv : Vals ys its') (hz : ys.length ≤ sizeLine) :
    Inv X pins σ (upd H l (.lst ys)) { s with heap := s.heap.update l (Obj.mapSeq f), toks := t' } := by
  have q := PySem.IsL.update e f
  rw [hf] at q
  refine I.write (x := l) (e := l) (by rw [hH]; exact trivial) (.inl rfl) (fun b' u hb hu => (Heap.get?_update_other s.heap (Obj.mapSeq f) (Ne.symm hb)).trans hu) ⟨_, q⟩ ?_
  exact ⟨hz, its', _, hv, q⟩
theorem Inv.lnew {its : List Value} {t' : Nat} (I : Inv X pins σ H s) (hv : Vals ys its) (hz : ys.length ≤ sizeLine) :
    Inv X pins σ (upd H s.heap.objs.size (.lst ys)) { s with heap := s.heap.push { cls := .type "list", data := .seq its.toArray }, toks := t' } :=
  I.laid (fun _ _ q => Heap.get?_push_of_some _ q) (Nat.le_refl _) ⟨hz, its, 0, hv, Heap.get?_push_size _ rfl⟩
theorem Inv.fresh (I : Inv X pins σ H s) : H s.heap.objs.size = none := I.hok.fresh (Nat.le_refl _)
theorem Inv.lstM (I : Inv X pins σ H s) (hH : H l = some (.lst xs)) : xs.length ≤ sizeLine ∧ ∃ (its : List Value) (n : Nat), Vals xs its ∧ xs.length = its.length ∧ s.heap.get? l = some { cls := .type "list", data := .seq its.toArray n } := by
  obtain ⟨z, its, n, r, e⟩ := I.hok l _ hH
  exact ⟨z, its, n, r, r.length, e⟩

theorem notLongL {n : Nat} (h : n ≤ sizeLine) : Builtin.List.listTooLong n = false := by
  unfold Builtin.List.listTooLong
  exact decide_eq_false (by omega)
end

section
variable {X : Cx}

/-! ### methods -/
def rAppend : V → List V → Hp → VK → Prop := fun x vs H Q => ∃ l xs y, x = .ref l ∧ vs = [y] ∧ H l = some (.lst xs) ∧ xs.length < sizeLine ∧ Q .non (upd H l (.lst (xs ++ [y])))
theorem mt_append : MtM X "list.append" rAppend := by
  intro pins s σ H x vs v us Q I rx rv h
  obtain ⟨l, xs, y, rfl, rfl, hH, hz, q⟩ := h
  cases rx
  obtain ⟨u, rfl, ru⟩ := rv.one
  obtain ⟨z, its, n, r, hl, e⟩ := I.lstM hH
  refine call_meets F.slot_list_append ⟨_, e, rfl⟩ F.entry_list_append (F.args_list_append_2 _ _) (PySem.list_append l its.toArray n u (by rw [List.size_toArray]; omega)) ⟨e, ?_⟩
  refine ⟨.non, _, I.lset (its' := its ++ [u]) hH e (by simp) (r.append (.cons ru .nil)) ?_, rfl, q⟩
  rw [List.length_append, List.length_singleton]
  omega

def rPop : V → List V → Hp → VK → Prop := fun x vs H Q => ∃ l xs y, x = .ref l ∧ vs = [] ∧ H l = some (.lst xs) ∧ xs[xs.length - 1]? = some y ∧ Q y (upd H l (.lst xs.dropLast))
theorem mt_pop : MtM X "list.pop" rPop := by
  intro pins s σ H x vs v us Q I rx rv h
  obtain ⟨l, xs, y, rfl, rfl, hH, hy, q⟩ := h
  cases rx
  have hus := rv.zero
  subst hus
  obtain ⟨z, its, n, r, hl, e⟩ := I.lstM hH
  obtain ⟨u, hu, ru⟩ := r.get hy
  have hy' : its.toArray[its.toArray.size - 1]? = some u := by
    show its.toArray[its.length - 1]? = some u
    rw [← Array.getElem?_toList, ← hl]
    exact hu
  refine call_meets F.slot_list_pop ⟨_, e, rfl⟩ F.entry_list_pop (F.args_list_pop_1 _) (MeetsSeq.list_pop_last l its.toArray n u hy' (by rw [List.size_toArray]; omega)) ⟨e, ?_⟩
  refine ⟨y, _, I.lset (its' := its.dropLast) hH e ?_ r.dropLast ?_, ru, q⟩
  · show its.toArray.eraseIdxIfInBounds (its.toArray.size - 1) = its.dropLast.toArray
    rw [List.size_toArray, List.eraseIdxIfInBounds_toArray, erase_last]
  · rw [List.length_dropLast]
    omega

def rPopAt : V → List V → Hp → VK → Prop := fun x vs H Q => ∃ l xs i k y, x = .ref l ∧ vs = [.int i] ∧ H l = some (.lst xs) ∧ -(2 ^ 63) ≤ i ∧ i < 2 ^ 63 ∧ seqIndex? i xs.length = some k ∧ xs[k]? = some y ∧ Q y (upd H l (.lst (xs.eraseIdx k)))
theorem mt_popAt : MtM X "list.pop" rPopAt := by
  intro pins s σ H x vs v us Q I rx rv h
  obtain ⟨l, xs, i, k, y, rfl, rfl, hH, h1, h2, hk, hy, q⟩ := h
  cases rx
  obtain ⟨u, rfl, ru⟩ := rv.one
  obtain ⟨t, rfl⟩ := ru
  obtain ⟨z, its, n, r, hl, e⟩ := I.lstM hH
  obtain ⟨w, hw, rw'⟩ := r.get hy
  refine call_meets F.slot_list_pop ⟨_, e, rfl⟩ F.entry_list_pop (F.args_list_pop_2 _ _)
    (MeetsSeq.list_pop_at l its.toArray n i t k w (fitsIndex_both h1 h2) (by rw [List.size_toArray, ← hl]; exact hk) (by rw [← Array.getElem?_toList]; exact hw) (by rw [List.size_toArray]; omega)) ⟨e, ?_⟩
  refine ⟨y, _, I.lset (its' := its.eraseIdx k) hH e ?_ (r.eraseIdx k) ?_, rw', q⟩
  · show its.toArray.eraseIdxIfInBounds k = (its.eraseIdx k).toArray
    rw [List.eraseIdxIfInBounds_toArray]
  · have := len_erase xs k
    omega

theorem len_rep {α : Type} (xs : List α) (k : Nat) : (List.replicate k xs).flatten.length = k * xs.length := by
  induction k with
  | zero => simp
  | succ k ih => rw [List.replicate_succ, List.flatten_cons, List.length_append, ih, Nat.succ_mul, Nat.add_comm]
end

/-! ### xs[a:b] = ys -/
section
variable {prog : Program} {w : World} {A : Around} {E : Value → Shared → Prop} {s : Shared}
end

section
variable {X : Cx}
end
end L2

namespace Att
open PySem PySem.W PySem.Calls PyProof.Rows

/-! ### the script -/
theorem ints_of_wellAll {P : Params} {h : Heap} : ∀ (ns : List Int) (vs : List Value), WellAll P h vs (ns.map WData.int) → IntsAre vs ns := by
  intro ns
  induction ns with
  | nil =>
    intro vs w
    rw [List.map_nil] at w
    cases w
    exact .nil
  | cons n ns ih =>
    intro vs w
    rw [List.map_cons] at w
    cases w with
    | cons a b =>
      cases a
      exact .cons _ _ (ih _ b)

theorem script_of {l : OpenLaw} {n : Nat} (hn : l.most = some n) {P : Params} {h : Heap} {args : List WData} {vals : List Value}
    (hpre : l.row.toRowW.claim.pre args = true) (hwl : WellAll P h vals args) :
    ∃ a vs ns, vals = [Value.ref a] ∧ args = [WData.list (ns.map WData.int)] ∧ h.get? a = some { cls := .type "list", data := .seq vs.toArray } ∧ IntsAre vs ns ∧ ns.length ≤ n := by
  have hsh : WShape.hasAll [] args [.list .int] = true := (pre_splitW hpre).1
  have hc : l.pre.holds [] { args := args } = true := (pre_splitW hpre).2
  obtain ⟨d, r, rfl, h1, h2⟩ := hasAllW_cons hsh
  obtain rfl := hasAllW_nil h2
  obtain ⟨xs, rfl, h3⟩ := hasW_list h1
  obtain ⟨ns, rfl⟩ := items_int h3
  have hlen : ns.length ≤ n := by
    unfold OpenLaw.pre at hc
    have h4 : (WTm.not (.lt (.lit (.int (n : Int))) (.len (.arg 0)))).holds [] { args := [.list (ns.map .int)] } = true := by
      have h4 := (holds_andW hc).1
      rw [hn] at h4
      exact h4
    have h5 := condW_of h4 (w_not (w_lt w_lit (w_len_list (w_arg rfl))))
    rw [List.length_map] at h5
    refine Nat.le_of_not_lt fun q => ?_
    have q' : (n : Int) < ((ns.length : Nat) : Int) := by omega
    first
      | (rw [decide_eq_true q'] at h5; exact absurd h5 (by decide))
      | (simp at h5; omega)
  cases hwl with
  | cons w1 w2 =>
    cases w2
    cases w1 with
    | list ho hall => exact ⟨_, _, ns, rfl, rfl, ho, ints_of_wellAll ns _ hall, hlen⟩

theorem post_true (l : OpenLaw) (args : List WData) : l.row.toRowW.claim.post args (.bool true) args = true :=
  postW_of (r := l.row.toRowW) (X := (true == true))
    (show WShape.has [] (.bool true) .bool = true by first | rfl | decide | simp [WShape.has, WShape.arms, WShape.armsAll])
    (show (WTm.eq .res (.lit (.bool true))).value [] { args := args, res := some (.bool true), after := args } = some (.bool (true == true)) from w_eq_bool (w_res rfl) w_lit) rfl

/-- the same from a codeAny of the CALL (for a layer whose function contracts speak of calls) -/
theorem attach_call {l : OpenLaw} {n : Nat} {q : Program} {loose : List Str} {XP : (Str → Option Value) → Heap → Prop} {YP : World → Heap → Prop} {d : DefRec}
    (hn : l.most = some n) (hdf : d.params.defaults = [])
    (call : ∀ (w : World) (s₀ s₁ : Shared) (mg mb : Str → Option Value) (fa : Addr) (o : Obj) (pm cd doc : Value) (a : Addr) (vs : List Value) (ns : List Int),
      Ground q loose [] XP w s₀ mg mb s₁.heap → YP w s₁.heap →
      s₁.heap.get? fa = some o → o.data = .func (docDef d.name d.params d.body d.scope pm cd doc) → s₁.heap.CodeRec cd d.name → mg d.name = some (.ref fa) →
      s₁.heap.get? a = some { cls := .type "list", data := .seq vs.toArray } → IntsAre vs ns → ns.length ≤ n → s₁.gens = #[] →
      codeAny (model l.prog w) callerA (.call (.ref fa) ⟨[.ref a], []⟩) (fun r s' => r = .ok (.ret (.bool true)) ∧ OldK s₁.heap s'.heap ∧ s'.os = s₁.os ∧ AllBare s'.gens) s₁) :
    WalkO q loose XP YP l.row.toRowW d [] (fun f vs => PySem.call f vs) := by
  intro w s₀ s₁ mg mb G Y fa o pm cd doc dV kV ho hd hcd hD hmg hg args vals as hpre hlay hrd hwl hlo
  obtain rfl : dV = .none := Dflts.none hD hdf
  obtain rfl : kV = .none := Dflts.noKw hD
  obtain ⟨a, vs, ns, rfl, rfl, hobj, hints, hlen⟩ := script_of hn hpre hwl
  refine enter_call (codeAny_mono (call w s₀ s₁ mg mb fa o pm cd doc a vs ns G Y ho (fd_plain hd) hcd hmg hobj hints hlen hg) fun r s' hq => ?_)
  obtain ⟨rfl, h2, h3, h4⟩ := hq
  exact ⟨.inl ⟨.bool true, .bool true, [], rfl, fun _ => rfl, .bool true, post_true l _, fun _ => ⟨List.Pairwise.nil, fun _ hm => (nomatch hm)⟩⟩, h2, h3, h4⟩

/-! ### rules over ANY heap (no ledger) from facts about the written part K: the library's own take a ledger (News) for what they write -/
section
variable {prog : Program} {w : World} {A : Around} {E : Value → Shared → Prop} {s : Shared} {K : Frag}

def ledger (h : Heap) (L d : Addr) : List (Addr × Obj) := (List.range h.objs.size).filterMap fun a => if a = L ∨ a = d then none else (h.get? a).map fun o => (a, o)
end
end Att

namespace L2
open PySem PySem.Spec PyProof.Rows

theorem vals_ints : ∀ {vs : List Value} {ns : List Int}, IntsAre vs ns → Vals (ns.map V.int) vs
  | _, _, .nil => .nil
  | _, _, .cons n t h => .cons ⟨t, rfl⟩ (vals_ints h)

/-- nothing is tracked but the script, known to the object (or it is an object of the module) -/
def Only (H : Hp) : Prop := ∀ b, H b = none ∨ ∃ o u, H b = some (.frz o u)
/-- the module's flat tuples -/
def stH (K : PySem.W.Frag) (b : Addr) : Option HO := match K.lookup b with
  | some o => (stO o).map fun vs => .frz o (.tup vs)
  | none => none
theorem stH_some {K : PySem.W.Frag} {b : Addr} {u : HO} (e : stH K b = some u) : ∃ o vs, K.lookup b = some o ∧ stO o = some vs ∧ u = .frz o (.tup vs) := by
  unfold stH at e
  split at e
  · rename_i o ho
    cases q : stO o with
    | none => rw [q] at e; cases e
    | some vs => rw [q] at e; cases e; exact ⟨o, vs, ho, q, rfl⟩
  · cases e
/-- with them -/
def wst (K : PySem.W.Frag) (H : Hp) : Hp := fun b => match H b with
  | some u => some u
  | none => stH K b
theorem wst_some {K : PySem.W.Frag} {H : Hp} {b : Addr} {u : HO} (e : H b = some u) : wst K H b = some u := by unfold wst; rw [e]
theorem wst_none {K : PySem.W.Frag} {H : Hp} {b : Addr} (e : H b = none) : wst K H b = stH K b := by unfold wst; rw [e]

/-- THE HEAD: the law's promise, at the heap behind the top. F, the promise of the law's def, may use that base is part of the heap (so K.In base, base.Ns mainGlobals mg stand in Mod) -/
theorem law_call {P : Program} {w : World} {K : PySem.W.Frag} {mg mb : Str → Option Value} {CX : CXT} {k : Nat} {fa a : Addr} {fd : FuncData} {x : Str} {sp : Sp} {s₁ : Shared} {vs : List Value} {ns : List Int}
    (KX : K.In s₁.heap) (hns : s₁.heap.Ns mainGlobals mg) (hb : s₁.heap.Ns builtinsNs mb) (hbb : ∀ x : Str, x ≠ "__name__" → mb x = bootBuiltins x) (hlim : s₁.heap.NoLimit) (hg : s₁.gens = #[])
    (ha : s₁.heap.get? a = some { cls := .type "list", data := .seq vs.toArray }) (hi : IntsAre vs ns) (hl : ns.length ≤ sizeLine) (hr : Room k callerA)
    (F : ∀ base : Heap, K.In base → base.Ns mainGlobals mg → FnOk P w K mg base CX k fa fd [x] sp) (hbind : ∀ (s : Shared) (u : Value), BindsTo s fd ⟨[u], []⟩ [(x, u)])
    (hsp : ∀ H : Hp, Only H → SqL K H a (ns.map V.int) → sp [.ref a] H (fun v _ => v = .bl true) fun _ _ _ => False)
    (hCX : ∀ H e s', CX [] H s₁ (fun _ _ _ => False) e s' → False) :
    codeAny (model P w) callerA (.call (.ref fa) ⟨[.ref a], []⟩) (fun r s' => r = .ok (.ret (.bool true)) ∧ OldK s₁.heap s'.heap ∧ s'.os = s₁.os ∧ AllBare s'.gens) s₁ := by
  have rv := vals_ints hi
  have lenV := hi.length
  -- from an abstract heap in which nothing but the script may be tracked
  have core : ∀ H : Hp, (∀ b, H b = none ∨ ∃ o xs, H b = some (.frz o (.lst xs))) → SqL K H a (ns.map V.int) → HOk P w H s₁.heap → (∀ b, H b ≠ none → b = a) → (H a ≠ none → K.lookup a = none) →
      codeAny (model P w) callerA (.call (.ref fa) ⟨[.ref a], []⟩) (fun r s' => r = .ok (.ret (.bool true)) ∧ OldK s₁.heap s'.heap ∧ s'.os = s₁.os ∧ AllBare s'.gens) s₁ := by
    intro H hO hS hok hA hK
    have base_of : ∀ {b : Addr} {o : Obj}, s₁.heap.get? b = some o → H b = none → (hidT s₁.heap H).get? b = some o := fun e n => hidT_get e n
    have noA : ∀ {b : Addr} {o : Obj} {es : Array DictEntry} {ep : Nat}, s₁.heap.get? b = some o → o.data = .dict es ep → H b = none := fun {b o es ep} e d => by
      cases q : H b with
      | none => rfl
      | some u =>
        have e' : b = a := hA b (by rw [q]; simp)
        subst e'
        rw [ha] at e; cases e
        have d' : Data.seq vs.toArray _ = Data.dict es ep := d
        cases d'
    have nsK : ∀ {b : Addr} {m : Str → Option Value}, s₁.heap.Ns b m → (hidT s₁.heap H).Ns b m := fun {b m} ⟨o, es, ep, e, d, r⟩ => ⟨o, es, ep, base_of e (noA e d), d, r⟩
    have hKb : K.In (hidT s₁.heap H) := fun b o e => base_of (KX b o e) (by
      cases q : H b with
      | none => rfl
      | some u =>
        have e' : b = a := hA b (by rw [q]; simp)
        subst e'
        rw [hK (by rw [q]; simp)] at e; cases e)
    have hM : Mod K mg (hidT s₁.heap H) := ⟨hKb, nsK hns, ⟨mb, nsK hb, hbb⟩, let ⟨mc, h1, h2⟩ := hlim; ⟨mc, nsK h1, h2⟩⟩
    have hO2 : Only (wst K H) := fun b => by
      rcases hO b with z | ⟨o, xs, z⟩
      · rw [wst_none z]
        cases q : stH K b with
        | none => exact .inl rfl
        | some u => obtain ⟨o, vs, _, _, rfl⟩ := stH_some q; exact .inr ⟨o, _, rfl⟩
      · exact .inr ⟨o, _, wst_some z⟩
    have hok2 : HOk P w (wst K H) s₁.heap := fun b u e => by
      rcases hO b with z | ⟨o, xs, z⟩
      · rw [wst_none z] at e
        obtain ⟨o, vs, k1, k2, rfl⟩ := stH_some e
        exact ⟨KX b o k1, stO_ok (KX b o k1) k2⟩
      · have e1 := hok b _ z
        rw [wst_some z] at e
        cases e
        exact e1
    have hS2 : SqL K (wst K H) a (ns.map V.int) := by
      rcases hS with (z | ⟨o, z⟩) | z
      · exact .inl (.inl (wst_some z))
      · exact .inl (.inr ⟨o, wst_some z⟩)
      · exact .inr z
    have hsb : ∀ b o, (hidT s₁.heap H).get? b = some o → s₁.heap.get? b = some o ∧ Sb K (wst K H) b o := fun b o e => by
      obtain ⟨e1, e2⟩ := of_hidT e
      refine ⟨e1, ?_, fun vs k q => ?_⟩
      · rw [wst_none e2]
        cases q : stH K b with
        | none => exact .inl rfl
        | some u =>
          obtain ⟨o', vs, k1, _, rfl⟩ := stH_some q
          have := KX b o' k1
          rw [e1] at this
          cases this
          exact .inr ⟨_, rfl⟩
      · rw [wst_none e2]
        unfold stH
        rw [k]
        dsimp only
        rw [q]
        rfl
    have e0 : Env0 P w K mg (hidT s₁.heap H) callerA [] s₁ (wst K H) := ⟨rfl, hM, hsb, Nat.le_of_eq (hidT_size _ _), trivial, fun b hb => absurd (show b ∈ ([] : List Addr) from hb) (by simp), hok2, .of_eq hg⟩
    refine codeAny_mono ((F _ hKb (nsK hns)).run callerA [] s₁ (wst K H) ⟨[.ref a], []⟩ [.ref a] [.ref a] _ _ hr e0 (hbind s₁ (.ref a)) (.cons rfl .nil) (hsp _ hO2 hS2)) fun r s' h => ?_
    cases r with
    | error e => exact (hCX _ e s' h).elim
    | ok fl =>
      cases fl with
      | next => exact False.elim h
      | brk => exact False.elim h
      | cont => exact False.elim h
      | ret u =>
        obtain ⟨v, H', os, bare, un, hok', r', q⟩ := h
        have q' : v = .bl true := q
        subst q'
        obtain rfl : u = Value.bool true := r'
        refine ⟨rfl, OldK.of_keep fun b o e => ?_, os, bare⟩
        rcases hO2 b with q | ⟨ob, u, z⟩
        · exact un.keep b o e q (by intro z; exact absurd (show b ∈ ([] : List Addr) from z) (by simp)) (by simp)
        · have z2 := un.frzs b ob _ z
          obtain ⟨e1, _⟩ := hok2 b _ z
          obtain ⟨e2, _⟩ := hok' b _ z2
          rw [e] at e1; cases e1
          exact e2
  cases hk : K.lookup a with
  | some o =>
    -- the script is one of the module's own objects
    have e := KX a o hk
    rw [ha] at e
    cases e
    refine core (fun _ => none) (fun _ => .inl rfl) (.inr ⟨_, vs.toArray, _, hk, rfl, rfl, rfl, by rw [List.size_toArray, lenV]; exact hl, by simpa using rv⟩) (fun b u z => by have z' : (none : Option HO) = some u := z; cases z') (fun b z => absurd rfl z) fun z => absurd rfl z
  | none =>
    refine core (fun b => if b = a then some (.frz { cls := .type "list", data := .seq vs.toArray } (.lst (ns.map V.int))) else none) (fun b => ?_) (.inl (.inr ⟨{ cls := .type "list", data := .seq vs.toArray }, if_pos rfl⟩)) (fun b u z => ?_) (fun b z => ?_) fun _ => hk
    · by_cases hb : b = a
      · exact .inr ⟨_, _, if_pos hb⟩
      · exact .inl (if_neg hb)
    · by_cases hb : b = a
      · have z' := (if_pos hb).symm.trans z
        cases z'
        subst hb
        exact ⟨ha, by rw [List.length_map]; exact hl, vs, _, rv, ha⟩
      · have z' := (if_neg hb).symm.trans z
        cases z'
    · by_cases hb : b = a
      · exact hb
      · exact absurd (if_neg hb) z
end L2

namespace L2
open PySem PySem.Spec PyProof.Rows

abbrev KOf {K : PySem.W.Frag} {h : Heap} (_ : K.In h) : PySem.W.Frag := K

/-- the goal that k_head leaves (case hc), from the law's promise. F gives the function object fd (K's own) once, then the promise over every base -/
theorem walk_of {l : PySem.W.OpenLaw} {n k : Nat} {q : Program} {loose : List Str} {XP : (Str → Option Value) → Heap → Prop} {YP : World → Heap → Prop} {d : DefRec} {K : Params → PySem.W.Frag} {CX : World → CXT} {sp : World → Sp} {x : Str}
    (hn : l.most = some n) (hn2 : n ≤ sizeLine) (hdf : d.params.defaults = []) (hr : Room k callerA)
    (hY : ∀ (w : World) (h : Heap), YP w h → (K w.params).In h)
    (F : ∀ (w : World) (mg : Str → Option Value) (fa : Addr) (h : Heap), (K w.params).In h → h.Ns mainGlobals mg → mg d.name = some (.ref fa) →
      ∃ fd : FuncData, (∀ (s : Shared) (u : Value), BindsTo s fd ⟨[u], []⟩ [(x, u)]) ∧
        ∀ base : Heap, (K w.params).In base → base.Ns mainGlobals mg → FnOk l.prog w (K w.params) mg base (CX w) k fa fd [x] (sp w))
    (hsp : ∀ (w : World) (H : Hp) (a : Addr) (ns : List Int), ns.length ≤ n → Only H → SqL (K w.params) H a (ns.map V.int) → sp w [.ref a] H (fun v _ => v = .bl true) fun _ _ _ => False)
    (hCX : ∀ (w : World) (H : Hp) (s : Shared) (e : Value) (s' : Shared), CX w [] H s (fun _ _ _ => False) e s' → False) :
    PySem.W.WalkO q loose XP YP l.row.toRowW d [] (fun f vs => PySem.call f vs) := by
  refine Att.attach_call hn hdf fun w s₀ s₁ mg mb fa o pm cd doc a vs ns G Y ho hd hcd hmg hobj hints hlen hg => ?_
  have KX := hY w _ Y
  obtain ⟨fd, hb, hF⟩ := F w mg fa _ KX G.T.g hmg
  exact law_call KX G.T.g G.T.b G.T.builtins G.T.nolimit hg hobj hints (Nat.le_trans hlen hn2) hr hF hb (fun H hO hS => hsp w H a ns hlen hO hS) fun H e s' => hCX w H s₁ e s'
end L2

/- THE LAST THEOREM (shape; LID, My.* are yours):
   My.Adr: a structure of the addresses that your layer names (classes, functions); My.Txt K t: a structure (Prop) of the equations over K;
   My.txt_mk : {K} {implicit addresses ..} (e1 : nsIn K mainGlobals "law" = some (some (.ref f))) (e2 : K.lookup f = some ⟨oc, od, .func (fnOf "law" "law" params body scope dV kV doc pm an cdv ct), sl⟩) (e3 : codeIn K cdv "law" = true) .. : ∃ t, My.Txt K t

set_option maxRecDepth 100000 in
set_option maxHeartbeats 0 in
theorem PySem.Challenge.cw_LID_holds : PySem.Challenge.rw_LID.Holds := by
  w_on; o_law; k_head; (case hw => w_witness2)
  k_fill
  refine L2.walk_of (l := PySem.Challenge.rw_LID) (n := 63) (k := 40) (x := "script") (CX := fun w => ..) (sp := fun _ => My.sp_law) rfl (by decide) rfl ⟨rfl, by decide, by decide⟩ (fun w h Y => PySem.W.kIn_of Y) ?F ?S ?C
  case F =>
    intro w mg fa h KX G hmg
    have T : ∃ t, My.Txt (L2.KOf KX) t := by
      dsimp only [L2.KOf]                          -- K must stand as «<heap const> w.params» for k_is
      refine' My.txt_mk ?e1 ?e2 ?e3 ..
      (case e1 => PySem.W.k_is)                    -- in the order: a name -> its address -> its object -> its parts
      (case e2 => PySem.W.k_is)
      ..
    obtain ⟨t, T⟩ := T
    have e0 := hmg.symm.trans (PySem.W.mg_of KX G T.law)
    cases e0                                       -- fa is the law's own address
    exact ⟨_, fun s u => .of_eq rfl, fun base kb nb => My.law_fn T kb nb⟩     -- if «.of_eq rfl» comes too early: refine' ⟨_, ?b, fun base kb nb => My.law_fn T kb nb⟩; exact fun s u => .of_eq rfl
  case S => exact fun w H a ns hl hO hS => ..
  case C => exact ..
(the tactic k_is has no namespace: write k_is) -/

/-! SHORT WORDS over the layer: a def of the text, its body, what a loop and a test want. -/
namespace L2
open PySem PySem.Spec PyProof.Rows

def defArgs (s : Stmt) : Arguments := match s with
  | .FunctionDef _ a _ _ _ _ _ _ _ _ => a
  | _ => { posonlyargs := [], args := [], vararg := none, kwonlyargs := [], kw_defaults := [], kwarg := none, defaults := [] }
def defBody (s : Stmt) : List Stmt := match s with
  | .FunctionDef _ _ b _ _ _ _ _ _ _ => b
  | _ => []
def defScope (s : Stmt) : Scope := match s with
  | .FunctionDef _ _ _ _ _ _ sc _ _ _ => sc
  | _ => { kind := .function, names := [], isGenerator := false, isCoroutine := false }

/-! ### no exception leaves a def -/
abbrev CX0 : CXT := fun _ _ _ _ _ _ => False
/-! ### a def (or method) of the text as it stands behind the top -/
structure Fun (K : PySem.W.Frag) (x qual : Str) (st : Stmt) (f : Addr) (fd : FuncData) : Prop where
  ex : ∃ (oc : Value) (od : Option Addr) (kV doc pm : Value) (an : Option Addr) (cdv ct : Value) (osl : Array (Option Value)),
    fd = PySem.W.fnOf x qual (defArgs st) (defBody st) (defScope st) .none kV doc pm an cdv ct ∧ K.lookup f = some ⟨oc, od, .func fd, osl⟩ ∧ PySem.W.codeIn K cdv qual = true
  kp : PySem.W.keepIn K (.ref f) = true
section
variable {P : Program} {w : World} {K : PySem.W.Frag} {mg : Str → Option Value} {base : Heap}
/-- THE RULE for a def: its body as a term of rules, and the reading of that term -/
theorem Fun.ok {x qual : Str} {st : Stmt} {f : Addr} {fd : FuncData} {N ps : List Str} {k : Nat} {sp : Sp} (F : Fun K x qual st f fd) (S : FnScope N ps (defScope st)) (len : ∀ vs H Q E, sp vs H Q E → vs.length = ps.length)
    (hbody : ∀ (cdv : Value) (A : Around) (outer : List Env) (s : Shared) (H : Hp) (vs : List V) (Q : VK) (E : XK), Room k (A.deeper (envOfC qual (defScope st) s.heap.objs.size f cdv)) → sp vs H Q E →
      ∃ t, PSs (cxOf CX0 P w K mg base N qual (defScope st) f cdv A outer s H E).nox (defBody st) t ∧ t { nx := fun _ H' => Q .non H', rt := Q } (start N vs) H) : FnOk P w K mg base CX0 (k + 1) f fd ps sp := by
  obtain ⟨oc, od, kV, doc, pm, an, cdv, ct, osl, rfl, lk, hcd⟩ := F.ex
  refine fn_of lk hcd S len fun A outer s H vs Q E hr hsp => ?_
  obtain ⟨t, h, q⟩ := hbody cdv A outer s H vs Q E hr hsp
  exact ⟨t, h.nox, q⟩
/-- how its arguments bind (no defaults): h is «fun _ _ _ _ _ _ us hl => match us, hl with | [_, _], _ => rfl», one _ a parameter -/
theorem Fun.binds {x qual : Str} {st : Stmt} {f : Addr} {fd : FuncData} {ps : List Str} (F : Fun K x qual st f fd)
    (h : ∀ (kV doc pm : Value) (an : Option Addr) (cdv ct : Value) (us : List Value), us.length = ps.length → bindArgs (PySem.W.fnOf x qual (defArgs st) (defBody st) (defScope st) .none kV doc pm an cdv ct) ⟨us, []⟩ = pure (ps.zip us)) : Binds K fd ps [] := by
  obtain ⟨oc, od, kV, doc, pm, an, cdv, ct, osl, rfl, lk, hcd⟩ := F.ex
  exact .all (h kV doc pm an cdv ct)
theorem fun_mk {x qual : Str} {st : Stmt} {f : Addr} {oc : Value} {od an : Option Addr} {osl : Array (Option Value)} {kV doc pm cdv ct : Value} (l : K.lookup f = some ⟨oc, od, .func (PySem.W.fnOf x qual (defArgs st) (defBody st) (defScope st) .none kV doc pm an cdv ct), osl⟩)
    (c : PySem.W.codeIn K cdv qual = true) (k : PySem.W.keepIn K (.ref f) = true) : Fun K x qual st f (PySem.W.fnOf x qual (defArgs st) (defBody st) (defScope st) .none kV doc pm an cdv ct) := ⟨⟨oc, od, kV, doc, pm, an, cdv, ct, osl, rfl, l, c⟩, k⟩
end
/-! ### expressions in short: the name that stands in the i-th slot -/
section
variable {X : Cx}
end

/-! ### tests -/
theorem iteF {A B : Prop} (h : B) : if false = true then A else B := by
  rw [if_neg Bool.false_ne_true]
  exact h
theorem iteT {A B : Prop} (h : A) : if true = true then A else B := by
  rw [if_pos rfl]
  exact h
/-! ### heaps -/
/-- all that was tracked is as it was -/
def Same (H H' : Hp) : Prop := ∀ b o, H b = some o → H' b = some o
theorem Same.refl (H : Hp) : Same H H := fun _ _ h => h
theorem Same.trans {H H1 H2 : Hp} (a : Same H H1) (b : Same H1 H2) : Same H H2 := fun c o h => b c o (a c o h)
theorem Same.free {H H' : Hp} (e : Same H H') {l : Addr} (h : H' l = Option.none) : H l = Option.none := by
  cases q : H l with
  | none => rfl
  | some o =>
    rw [e l o q] at h
    cases h
theorem Same.seq {K : PySem.W.Frag} {H H' : Hp} {a : Addr} {xs : List V} (e : Same H H') (h : SqL K H a xs) : SqL K H' a xs := by
  rcases h with (h | ⟨o, h⟩) | h
  · exact .inl (.inl (e _ _ h))
  · exact .inl (.inr ⟨o, e _ _ h⟩)
  · exact .inr h

end L2
set_option Elab.async false
set_option linter.all false
set_option maxRecDepth 100000
namespace L2
open PySem PySem.Spec PyProof.Rows

end L2

namespace L2
open PySem PySem.Spec PyProof.Rows

section
variable (P : Program) (w : World)
end

section
variable {P : Program} {w : World} {H H' : Hp} {h h' : Heap} {a : Addr} {o : HO}
end

section
variable {P : Program} {w : World} {H : Hp} {h h' : Heap} {x e : Addr} {o' : HO}
end

section
variable {fs fs' ex ex' : List Addr} {H H1 H2 : Hp} {h h1 h2 h' : Heap} {a x e : Addr} {o : HO}
end

end L2

namespace L2
open PySem PySem.Spec PyProof.Rows

section
variable {X : Cx} {pins : List (Addr × Obj)} {σ : List (Option V)} {H H' : Hp} {s : Shared} {h' : Heap}

end

end L2

namespace L2
open PySem PySem.Spec PyProof.Rows
section
variable {X : Cx}

variable {a b : Expr} {ta tb : TE} {pos : Pos}
variable {tA tB' : TT} {rest : List Expr}
end
end L2

namespace L2
open PySem PySem.Spec PyProof.Rows

section
variable {X : Cx} {pins : List (Addr × Obj)} {σ : St} {H : Hp} {s : Shared} {a : Addr} {xs ys : List V}
end

section
variable {X : Cx} {pins : List (Addr × Obj)} {σ : St} {H : Hp} {s : Shared} {E : Value → Shared → Prop}
end

section
variable {X : Cx} {st : Stmt} {rest : List Stmt} {t u : TS} {e : Expr} {te : TE} {pos : Pos}
end

section
variable {X : Cx} {pos : Pos}
end

section
variable {X : Cx} {pos : Pos}
end

end L2

namespace L2
open PySem PySem.Spec PyProof.Rows
section
variable {X : Cx} {tg : Expr}
end

end L2

namespace L2
open PySem PySem.Spec PyProof.Rows

section
variable {X : Cx} {a b c : Expr} {ta tb tc : TE} {pos : Pos}

end

section
variable {X : Cx} {a b c : Expr} {ta tb tc : TE} {pos : Pos}
end
end L2

namespace L2
open PySem PySem.Spec PyProof.Rows

section
variable {prog : Program} {w : World} {A : Around} {E : Value → Shared → Prop} {s : Shared} {K : PySem.W.Frag} {x dx C f : Addr} {mA : Str → Option Value} {name : Str} {v : Value}

end

section
variable {P : Program} {w : World} {H H' : Hp} {h h' : Heap} {a C dx : Addr} {fs fs' : List (Str × V)}
end

section
variable {X : Cx} {pins : List (Addr × Obj)} {σ : St} {H : Hp} {s : Shared} {a C dx : Addr} {fs : List (Str × V)} {f : Str} {v : V} {A : Around} {E : Value → Shared → Prop}

end

section
variable {X : Cx} {o e value : Expr} {f : Str} {pos pos' tpos : Pos} {ta tv : TE}
end

section
variable {X : Cx} {pins : List (Addr × Obj)} {σ : St} {H : Hp} {s : Shared} {A : Around} {E : Value → Shared → Prop} {Q : Value → Shared → Prop} {c : Value} {b : Bool}
end
end L2

namespace L2
open PySem PySem.Spec PyProof.Rows

section
variable {X : Cx} {e : Expr} {es : List Expr} {te : TE} {t : TA} {pos : Pos}
end

section
variable {X : Cx} {pins : List (Addr × Obj)} {σ : St} {H : Hp} {s s' : Shared}
end

section
variable {X : Cx} {CX : CXT} {k : Nat} {f C : Addr} {fd : FuncData} {ps : List Str} {sp : Sp} {dvs : List V} {ds : List Value} {E : XK} {x m : Str} {p pos apos : Pos} {e o : Expr} {es : List Expr} {ta : TE} {t : TA}

end

section
variable {X : Cx} {CX : CXT} {k : Nat} {f C : Addr} {fd : FuncData} {ps ks : List Str} {sp : Sp} {E : XK} {x m : Str} {p pos apos kpos : Pos} {e o : Expr} {es : List Expr} {kws : List Keyword} {te ta : TE} {t tk : TA} {nm : Option Str}
variable {g : List Value → List Value → List Value} {gV : List V → List V → List V}
end

end L2

namespace L2
open PySem PySem.Spec PyProof.Rows
section
variable {X : Cx} {x : Str} {p pos : Pos} {e : Expr} {es : List Expr} {t : TA} {id T : String} {r : List V → Hp → VK → Prop}

end
end L2

namespace L2
open PySem PySem.Spec PyProof.Rows

section
variable {κ : Type} [DecidableEq κ]
def valV (kvs : List (κ × V)) (k : κ) : Option V := (kvs.find? fun kv => decide (kv.1 = k)).map (·.2)
def putK (kvs : List (κ × V)) (k : κ) (v : V) : List (κ × V) :=
  if (kvs.any fun kv => decide (kv.1 = k)) = true then kvs.map (fun kv => if kv.1 = k then (kv.1, v) else kv) else kvs ++ [(k, v)]
theorem valV_pos {p : κ × V} {r : List (κ × V)} {k : κ} (e : p.1 = k) : valV (p :: r) k = some p.2 := by simp [valV, List.find?_cons, e]
theorem valV_neg {p : κ × V} {r : List (κ × V)} {k : κ} (e : ¬ p.1 = k) : valV (p :: r) k = valV r k := by simp [valV, List.find?_cons, e]
theorem valV_any (k : κ) : ∀ kvs : List (κ × V), (kvs.any fun kv => decide (kv.1 = k)) = (valV kvs k).isSome
  | [] => rfl
  | p :: r => by
    rw [List.any_cons]
    by_cases e : p.1 = k
    · simp only [valV_pos e, decide_eq_true e, Bool.true_or, Option.isSome_some]
    · rw [valV_neg e, decide_eq_false e, Bool.false_or]; exact valV_any k r
theorem RelO.isSome_eq {o : Option V} {u : Option Value} (r : RelO o u) : o.isSome = u.isSome := by
  cases o with
  | none => cases u with
    | none => rfl
    | some _ => exact (show False from r).elim
  | some _ => cases u with
    | none => exact (show False from r).elim
    | some _ => rfl
theorem RelO.getD {o : Option V} {u : Option Value} {d : V} {d' : Value} (r : RelO o u) (rd : RelV d d') : RelV (o.getD d) (u.getD d') := by
  cases o with
  | none => cases u with
    | none => exact rd
    | some _ => exact (show False from r).elim
  | some _ => cases u with
    | none => exact (show False from r).elim
    | some _ => exact r

theorem KV.val {kvs : List (κ × V)} {vs : List (κ × Value)} (r : KV kvs vs) (k : κ) : RelO (valV kvs k) (valueAt vs k) := by
  unfold KV at r
  induction r with
  | nil => exact True.intro
  | @cons p q ps qs h t ih =>
    obtain ⟨h1, h2⟩ := h
    by_cases e : p.1 = k
    · have e' : q.1 = k := h1.symm.trans e
      have b : valueAt (q :: qs) k = some q.2 := by simp [valueAt, List.find?_cons, e']
      rw [valV_pos e, b]; exact h2
    · have e' : ¬ q.1 = k := fun z => e (h1.trans z)
      have b : valueAt (q :: qs) k = valueAt qs k := by simp [valueAt, List.find?_cons, e']
      rw [valV_neg e, b]; exact ih
theorem KV.any {kvs : List (κ × V)} {vs : List (κ × Value)} (r : KV kvs vs) (k : κ) : (kvs.any fun kv => decide (kv.1 = k)) = vs.any fun kv => decide (kv.1 = k) := by
  unfold KV at r
  induction r with
  | nil => rfl
  | cons h t ih => rw [List.any_cons, List.any_cons, ih, h.1]
theorem KV.repl {kvs : List (κ × V)} {vs : List (κ × Value)} (r : KV kvs vs) (k : κ) {y : V} {u : Value} (ry : RelV y u) :
    KV (kvs.map fun kv => if kv.1 = k then (kv.1, y) else kv) (vs.map fun kv => if kv.1 = k then (kv.1, u) else kv) := by
  unfold KV at r ⊢
  induction r with
  | nil => exact .nil
  | @cons p q ps qs h t ih =>
    rw [List.map_cons, List.map_cons]
    refine .cons ?_ ih
    obtain ⟨h1, h2⟩ := h
    by_cases e : p.1 = k
    · rw [if_pos e, if_pos (h1.symm.trans e)]; exact ⟨h1, ry⟩
    · rw [if_neg e, if_neg (fun z => e (h1.trans z))]; exact ⟨h1, h2⟩
theorem KV.put {kvs : List (κ × V)} {vs : List (κ × Value)} (r : KV kvs vs) (k : κ) {y : V} {u : Value} (ry : RelV y u) : KV (putK kvs k y) (stored vs k u) := by
  unfold putK stored
  rw [r.any k]
  by_cases e : (vs.any fun kv => decide (kv.1 = k)) = true
  · rw [if_pos e, if_pos e]; exact r.repl k ry
  · rw [if_neg e, if_neg e]; exact Paired.snoc r ⟨rfl, ry⟩
theorem KV.keys {kvs : List (κ × V)} {vs : List (κ × Value)} (r : KV kvs vs) : kvs.map (·.1) = vs.map (·.1) := by
  unfold KV at r
  induction r with
  | nil => rfl
  | cons h t ih => rw [List.map_cons, List.map_cons, ih, h.1]
theorem KV.length {kvs : List (κ × V)} {vs : List (κ × Value)} (r : KV kvs vs) : kvs.length = vs.length := Paired.length r
end


abbrev KT (H : Hp) : List (List Key × V) → List (List Key × Addr × Value) → Prop := Paired fun p q => p.1 = q.1 ∧ H q.2.1 = some (.tup (p.1.map kV)) ∧ RelV p.2 q.2.2
theorem KT.val {H : Hp} {kvs : List (List Key × V)} {xs : List (List Key × Addr × Value)} (r : KT H kvs xs) (k : List Key) : RelO (valV kvs k) ((atKey xs k).map (·.2)) := by
  induction r with
  | nil => exact True.intro
  | @cons p q ps qs h t ih =>
    obtain ⟨h1, _, h2⟩ := h
    by_cases e : p.1 = k
    · have e' : q.1 = k := h1.symm.trans e
      have b : atKey (q :: qs) k = some q.2 := by simp [atKey, List.find?_cons, e']
      rw [valV_pos e, b]; exact h2
    · have e' : ¬ q.1 = k := fun z => e (h1.trans z)
      have b : atKey (q :: qs) k = atKey qs k := by simp [atKey, List.find?_cons, e']
      rw [valV_neg e, b]; exact ih
theorem KT.repl {H : Hp} {kvs : List (List Key × V)} {xs : List (List Key × Addr × Value)} (r : KT H kvs xs) (k : List Key) {y : V} {u : Value} (ry : RelV y u) :
    KT H (kvs.map fun kv => if kv.1 = k then (kv.1, y) else kv) (xs.map (putAt k u)) := by
  induction r with
  | nil => exact .nil
  | @cons p q ps qs h t ih =>
    rw [List.map_cons, List.map_cons]
    refine .cons ?_ ih
    obtain ⟨h1, h2, h3⟩ := h
    unfold putAt
    by_cases e : p.1 = k
    · rw [if_pos e, if_pos (h1.symm.trans e)]; exact ⟨h1, h2, ry⟩
    · rw [if_neg e, if_neg (fun z => e (h1.trans z))]; exact ⟨h1, h2, h3⟩
theorem KT.put {H : Hp} {kvs : List (List Key × V)} {xs : List (List Key × Addr × Value)} (r : KT H kvs xs) (k : List Key) {b : Addr} {y : V} {u : Value} (hb : H b = some (.tup (k.map kV))) (ry : RelV y u) :
    KT H (putK kvs k y) (storedH xs k b u) := by
  have e : (kvs.any fun kv => decide (kv.1 = k)) = (atKey xs k).isSome := by
    rw [valV_any, (r.val k).isSome_eq, Option.isSome_map]
  unfold putK storedH
  rw [e]
  by_cases q : (atKey xs k).isSome = true
  · rw [if_pos q, if_pos q]; exact r.repl k ry
  · rw [if_neg q, if_neg q]; exact Paired.snoc r ⟨rfl, hb, ry⟩
theorem KT.keeps {H H' : Hp} {kvs : List (List Key × V)} {xs : List (List Key × Addr × Value)} (r : KT H kvs xs) (ht : ∀ b ys, H b = some (.tup ys) → H' b = some (.tup ys)) : KT H' kvs xs :=
  Paired.mapP r fun _ _ z => ⟨z.1, ht _ _ z.2.1, z.2.2⟩

section
variable {P : Program} {w : World} {H : Hp} {h : Heap} {a : Addr}
end

def DGet (H : Hp) (a : Addr) (y : V) (r : Option V) : Prop :=
  (∃ kvs k, Rd H a (.dK kvs) ∧ y = kV k ∧ r = valV kvs k) ∨ ∃ kvs k b, Rd H a (.dT kvs) ∧ y = .ref b ∧ H b = some (.tup (k.map kV)) ∧ r = valV kvs k
def DPut (H : Hp) (a : Addr) (y v : V) (H' : Hp) : Prop :=
  (∃ kvs k, H a = some (.dK kvs) ∧ y = kV k ∧ kvs.length < sizeLine ∧ H' = upd H a (.dK (putK kvs k v))) ∨
  ∃ kvs k b, H a = some (.dT kvs) ∧ y = .ref b ∧ H b = some (.tup (k.map kV)) ∧ kvs.length < sizeLine ∧ H' = upd H a (.dT (putK kvs k v))
theorem DGet.k {H : Hp} {a : Addr} {kvs : List (Key × V)} {k : Key} (e : H a = some (.dK kvs)) : DGet H a (kV k) (valV kvs k) := .inl ⟨kvs, k, .inl e, rfl, rfl⟩
theorem DGet.t {H : Hp} {a b : Addr} {kvs : List (List Key × V)} {k : List Key} (e : H a = some (.dT kvs)) (eb : H b = some (.tup (k.map kV))) : DGet H a (.ref b) (valV kvs k) := .inr ⟨kvs, k, b, .inl e, rfl, eb, rfl⟩
theorem DPut.k {H : Hp} {a : Addr} {kvs : List (Key × V)} {k : Key} {v : V} (e : H a = some (.dK kvs)) (hl : kvs.length < sizeLine) : DPut H a (kV k) v (upd H a (.dK (putK kvs k v))) := .inl ⟨kvs, k, e, rfl, hl, rfl⟩
theorem DPut.t {H : Hp} {a b : Addr} {kvs : List (List Key × V)} {k : List Key} {v : V} (e : H a = some (.dT kvs)) (eb : H b = some (.tup (k.map kV))) (hl : kvs.length < sizeLine) :
    DPut H a (.ref b) v (upd H a (.dT (putK kvs k v))) := .inr ⟨kvs, k, b, e, rfl, eb, hl, rfl⟩


section
variable {X : Cx} {pins : List (Addr × Obj)} {σ : St} {H : Hp} {s : Shared} {a : Addr} {y v : V} {u r : Value} {o : Option V} {A : Around} {E : Value → Shared → Prop}

theorem Inv.big (I : Inv X pins σ H s) : sysModules < s.heap.objs.size := by
  have h : mainGlobals < s.heap.objs.size := (I.mod.glob.keeps I.bk).lt
  exact Nat.lt_trans (by decide) h

end

section
variable {X : Cx} {pins : List (Addr × Obj)} {σ : St} {H : Hp} {s : Shared} {a : Addr} {kvs : List (Key × V)} {k : Key} {u : Value} {A : Around} {E : Value → Shared → Prop}
end


section
variable {X : Cx} {o i e value : Expr} {pos pos' tpos : Pos} {td ty tv : TE}
end


section
variable {X : Cx} {pos : Pos}
end

structure M2 (X : Cx) (o : Expr) (m : Str) (apos : Pos) (e f : Expr) (cpos : Pos) : Prop where
  base : attributeBase o m X.env (eval o X.env) = eval o X.env
  few : ((backTo cpos (starEach [e, f] X.env)).all (fun x => !x.1) && (backToKw cpos (keywordEach [] X.env)).all (fun x => x.1.isSome)
    && decide (([e, f] : List Expr).length + ([] : List Keyword).length + (if ([] : List Keyword).isEmpty then 0 else 1) < 30)) = true
  line : (apos.endLine == cpos.line) = true
  trees : backTo cpos (starEach [e, f] X.env) = [(false, eval e X.env), (false, eval f X.env)]

section
variable {X : Cx} {pins : List (Addr × Obj)} {σ : St} {H : Hp} {s : Shared} {a : Addr} {y d : V} {u r : Value} {o : Option V} {A : Around} {E : Value → Shared → Prop}
end

section
variable {X : Cx} {o e f : Expr} {apos cpos : Pos} {td ty tx : TE}
end

section
variable {X : Cx} {pins : List (Addr × Obj)} {σ : St} {H : Hp} {s : Shared} {a : Addr} {kvs : List (Key × V)} {A : Around} {E : Value → Shared → Prop}
end


section
variable {X : Cx} {pins : List (Addr × Obj)} {σ : St} {H : Hp} {s : Shared} {a : Addr} {y : V} {u : Value} {A : Around} {E : Value → Shared → Prop}
end
end L2

namespace Att
open PySem PySem.W PySem.Calls PyProof.Rows

section
variable {prog : Program} {w : World} {A : Around} {E : Value → Shared → Prop} {s : Shared} {K : Frag}

end
end Att

namespace L2
open PySem PySem.Spec PyProof.Rows

end L2

namespace L2
open PySem PySem.Spec PyProof.Rows

end L2

namespace L2
open PySem PySem.Spec PyProof.Rows

section
variable {P : Program} {w : World} {K : PySem.W.Frag} {mg : Str → Option Value} {base : Heap}
end
section
variable {X : Cx}
end

section
variable {κ : Type} [DecidableEq κ]
end
end L2
set_option Elab.async false
set_option linter.all false
set_option maxRecDepth 100000
/-! KT: what expressions, statements and defs are worth, as plain functions over data (PyData). No heap here. -/
namespace KT
open PySem

/-! ### data without lists -/
mutual
def lf : PyData → Bool
  | .none => true
  | .bool _ => true
  | .int _ => true
  | .str _ => true
  | .tuple xs => lfs xs
  | .list _ => false
  | .dict _ => false
def lfs : List PyData → Bool
  | [] => true
  | x :: xs => lf x && lfs xs
end

/-! ### environments -/
/-- what a name holds: a parameter's datum, a local's (its lists are younger than the def's entry), a list of the def's own (not shared), one whose items may be lists that stay, a caught error -/
inductive Slot where
  | par (d : PyData)
  | loc (d : PyData)
  | own (ds : List PyData)
  | own2 (ds : List PyData)
  | dct (ks : List PyData)
  | lent (ds : List PyData)
  | ex (c : Nat)
abbrev Rho := List (Option Slot)
/-- what an expression is worth: a datum and how young its lists are (0: nothing is known; 1: younger than the def's entry; 2: younger than the statement's start), or an error by its class -/
inductive RE where
  | ok (l : Nat) (d : PyData)
  | exc (c : Nat)
/-- what a call is worth -/
inductive RC where
  | ok (d : PyData)
  | exc (c : Nat)
/-- a row of data: arguments, or what a loop walks -/
inductive RI where
  | ok (l : Nat) (ds : List PyData)
  | exc (c : Nat)
/-- what a statement leads to -/
inductive RS where
  | next (ρ : Rho)
  | ret (d : PyData)
  | retL (d : PyData) (ds : List PyData)
  | exc (c : Nat) (ρ : Rho)
  | brk (ρ : Rho)
  | cont (ρ : Rho)
abbrev FE := Rho → Option RE
abbrev FI := Rho → Option RI
abbrev FS := Rho → Option RS
abbrev FC := List PyData → Option RC
def bindE (o : Option RE) (k : Nat → PyData → Option RE) : Option RE :=
  match o with
  | none => none
  | some (.exc c) => some (.exc c)
  | some (.ok l d) => k l d
def big : Nat := 100000
def lim : Nat := 2 ^ 256

/-! ### constants, names, operations -/
def eC (d : PyData) : FE := fun _ => some (.ok 2 d)
def eVar (i : Nat) : FE := fun ρ => match ρ[i]? with
  | some (some (.par d)) => some (.ok 0 d)
  | some (some (.loc d)) => some (.ok 1 d)
  | some (some (.own ds)) => some (.ok 1 (.list ds))
  | some (some (.own2 ds)) => some (.ok 1 (.list ds))
  | some (some (.lent ds)) => some (.ok 1 (.list ds))
  | _ => none
/-- fr: what it makes holds lists that are new alone -/
def e2 (op : PyData → PyData → Option PyData) (fr : Bool) (fa fb : FE) : FE := fun ρ => bindE (fa ρ) fun l x => bindE (fb ρ) fun m y => (op x y).map fun d => .ok (if fr then 2 else min l m) d
def e1 (op : PyData → Option PyData) (fr : Bool) (fa : FE) : FE := fun ρ => bindE (fa ρ) fun l x => (op x).map fun d => .ok (if fr then 2 else l) d
def dAdd : PyData → PyData → Option PyData
  | .int i, .int j => some (.int (i + j))
  | .str x, .str y => if x.length + y.length ≤ big then some (.str (x ++ y)) else none
  | .tuple xs, .tuple ys => if (lfs xs && lfs ys && decide (xs.length + ys.length ≤ big)) = true then some (.tuple (xs ++ ys)) else none
  | .list xs, .list ys => if (lfs xs && lfs ys && decide (xs.length + ys.length ≤ big)) = true then some (.list (xs ++ ys)) else none
  | _, _ => none
def dSub : PyData → PyData → Option PyData
  | .int i, .int j => some (.int (i - j))
  | _, _ => none
def CMulD (i j : Int) : Prop := i.natAbs < 2 ^ 64 ∨ j.natAbs < 2 ^ 64 ∨ (i.natAbs < lim ∧ j.natAbs < lim)
instance (i j : Int) : Decidable (CMulD i j) := by unfold CMulD; infer_instance
def dMul : PyData → PyData → Option PyData
  | .int i, .int j => if CMulD i j then some (.int (i * j)) else none
  | .list xs, .int k => if (lfs xs && decide (xs.length * k.toNat ≤ big) && decide (k.natAbs ≤ big)) = true then some (.list (List.replicate k.toNat xs).flatten) else none
  | _, _ => none
def dDiv : PyData → PyData → Option PyData
  | .int i, .int j => if 0 < j ∧ j.natAbs < lim then some (.int (i / j)) else none
  | _, _ => none
def dMod : PyData → PyData → Option PyData
  | .int i, .int j => if 0 < j then some (.int (i % j)) else none
  | _, _ => none
def dPow : PyData → PyData → Option PyData
  | .int i, .int j => if 0 ≤ j ∧ j ≤ 1000 ∧ i.natAbs < 2 ^ 64 then some (.int (i ^ j.toNat)) else none
  | _, _ => none
def dNeg : PyData → Option PyData
  | .int i => some (.int (-i))
  | _ => none
def eqOk (x y : PyData) : Bool := x.canLay0 && y.canLay0 && decide (min x.depth y.depth ≤ 60)
def dEqB : PyData → PyData → Option Bool
  | .int i, .int j => some (i == j)
  | .str i, .str j => some (i == j)
  | .bool i, .bool j => some (i == j)
  | x, y => if eqOk x y = true then some (PyData.eqv x y) else none
def dEq (x y : PyData) : Option PyData := (dEqB x y).map .bool
def dNe (x y : PyData) : Option PyData := (dEqB x y).map fun b => .bool (!b)
def dLt : PyData → PyData → Option PyData
  | .int i, .int j => some (.bool (decide (i < j)))
  | _, _ => none
def dGt : PyData → PyData → Option PyData
  | .int i, .int j => some (.bool (decide (j < i)))
  | _, _ => none
def inOk (x : PyData) (ys : List PyData) : Bool := x.canLay0 && PyData.canLayAll0 ys && decide (min (PyData.depthAll ys) x.depth ≤ 60)
def dInB : PyData → PyData → Option Bool
  | x, .tuple ys => if inOk x ys = true then some (ys.any fun y => PyData.eqv y x) else none
  | x, .list ys => if inOk x ys = true then some (ys.any fun y => PyData.eqv y x) else none
  | _, _ => none
def dIn (x y : PyData) : Option PyData := (dInB x y).map .bool
def dNotIn (x y : PyData) : Option PyData := (dInB x y).map fun b => .bool (!b)
def isNone : PyData → Bool
  | .none => true
  | _ => false
def dIsN (x y : PyData) : Option PyData := if isNone y = true then some (.bool (isNone x)) else none
def ixP (n : Nat) (i : Int) : Option Nat := if 0 ≤ i then (if i < n then some i.toNat else none) else if -(n : Int) ≤ i then some (i + n).toNat else none
def atP {α : Type} (xs : List α) (i : Int) : Option α := (ixP xs.length i).bind fun j => xs[j]?
def dIx : PyData → PyData → Option PyData
  | .tuple xs, .int i => atP xs i
  | .list xs, .int i => atP xs i
  | .str z, .int i => if z.length ≤ big then (atP z.cps.toList i).map fun c => .str ⟨#[c]⟩ else none
  | _, _ => none
def sxP (n d : Nat) : Option Int → Nat
  | none => d
  | some v => if v < 0 then (v + n).toNat else min v.toNat n
def cutP {α : Type} (xs : List α) (lo hi : Option Int) : List α := (xs.drop (sxP xs.length 0 lo)).take (sxP xs.length xs.length hi - sxP xs.length 0 lo)
def dSl (lo hi : Option Int) : PyData → Option PyData
  | .tuple xs => if lfs xs = true then some (.tuple (cutP xs lo hi)) else none
  | .list xs => if lfs xs = true then some (.list (cutP xs lo hi)) else none
  | _ => none
def eAdd : FE → FE → FE := e2 dAdd true
def eSub : FE → FE → FE := e2 dSub true
def eMul : FE → FE → FE := e2 dMul true
def eDiv : FE → FE → FE := e2 dDiv true
def eMod : FE → FE → FE := e2 dMod true
def ePow : FE → FE → FE := e2 dPow true
def eNeg : FE → FE := e1 dNeg true
def eEq : FE → FE → FE := e2 dEq true
def eNe : FE → FE → FE := e2 dNe true
def eLt : FE → FE → FE := e2 dLt true
def eGt : FE → FE → FE := e2 dGt true
def eIn : FE → FE → FE := e2 dIn true
def eNotIn : FE → FE → FE := e2 dNotIn true
def eIsN : FE → FE → FE := e2 dIsN true
def eIx : FE → FE → FE := e2 dIx false
/-- a part of a slice -/
inductive RO where
  | ok (i : Option Int)
  | exc (c : Nat)
abbrev FO := Rho → Option RO
def oNone : FO := fun _ => some (.ok none)
def oSome (f : FE) : FO := fun ρ => match f ρ with
  | some (.ok _ (.int i)) => some (.ok (some i))
  | some (.exc c) => some (.exc c)
  | _ => none
def eSl (f : FE) (lo hi : FO) : FE := fun ρ => bindE (f ρ) fun _ x => match lo ρ with
  | some (.ok l) => (match hi ρ with
    | some (.ok h) => (dSl l h x).map fun d => .ok 2 d
    | some (.exc c) => some (.exc c)
    | none => none)
  | some (.exc c) => some (.exc c)
  | none => none
/-! ### and, or, not, if -/
def eAnd (fa fb : FE) : FE := fun ρ => bindE (fa ρ) fun _ x => match x with
  | .bool true => fb ρ
  | .bool false => some (.ok 2 (.bool false))
  | _ => none
def eOr (fa fb : FE) : FE := fun ρ => bindE (fa ρ) fun _ x => match x with
  | .bool true => some (.ok 2 (.bool true))
  | .bool false => fb ρ
  | _ => none
def eNot (fa : FE) : FE := fun ρ => bindE (fa ρ) fun _ x => match x with
  | .bool b => some (.ok 2 (.bool (!b)))
  | _ => none
def eIf (fc fa fb : FE) : FE := fun ρ => bindE (fc ρ) fun _ x => match x with
  | .bool true => fa ρ
  | .bool false => fb ρ
  | _ => none
/-! ### rows, displays, calls -/
def eArgs : List FE → FI
  | [], _ => some (.ok 2 [])
  | f :: fs, ρ => match f ρ with
    | none => none
    | some (.exc c) => some (.exc c)
    | some (.ok l d) => match eArgs fs ρ with
      | none => none
      | some (.exc c) => some (.exc c)
      | some (.ok m ds) => some (.ok (min l m) (d :: ds))
def bindI (o : Option RI) (k : Nat → List PyData → Option RE) : Option RE :=
  match o with
  | none => none
  | some (.exc c) => some (.exc c)
  | some (.ok l ds) => k l ds
def eTup (fs : List FE) : FE := fun ρ => bindI (eArgs fs ρ) fun l ds => some (.ok l (.tuple ds))
def eLst (fs : List FE) : FE := fun ρ => bindI (eArgs fs ρ) fun _ ds => if lfs ds = true then some (.ok 2 (.list ds)) else none
def ofRC : Option RC → Option RE
  | none => none
  | some (.exc c) => some (.exc c)
  | some (.ok d) => some (.ok 2 d)
def eCall (g : FC) (fs : List FE) : FE := fun ρ => bindI (eArgs fs ρ) fun _ ds => ofRC (g ds)
/-! ### Python's own calls -/
def dLen : PyData → Option PyData
  | .tuple xs => some (.int xs.length)
  | .list xs => some (.int xs.length)
  | .str z => if z.length ≤ big then some (.int z.length) else none
  | _ => none
def dInt : PyData → Option PyData
  | .int i => some (.int i)
  | .bool b => some (.int (if b then 1 else 0))
  | _ => none
def dTuple : PyData → Option PyData
  | .list xs => if lfs xs = true then some (.tuple xs) else none
  | .tuple xs => if lfs xs = true then some (.tuple xs) else none
  | _ => none
def dList : PyData → Option PyData
  | .list xs => if lfs xs = true then some (.list xs) else none
  | .tuple xs => if lfs xs = true then some (.list xs) else none
  | _ => none
inductive Ty where
  | int | bool | str | tuple | list
def isTy : Ty → PyData → Bool
  | .int, .int _ => true
  | .int, .bool _ => true
  | .bool, .bool _ => true
  | .str, .str _ => true
  | .tuple, .tuple _ => true
  | .list, .list _ => true
  | _, _ => false
def dIs (t : Ty) : PyData → Option PyData
  | .dict _ => none
  | d => some (.bool (isTy t d))
def eLen : FE → FE := e1 dLen true
def eInt : FE → FE := e1 dInt true
def eTuple : FE → FE := e1 dTuple true
def eList : FE → FE := e1 dList true
def eIs (t : Ty) : FE → FE := e1 (dIs t) true
/-! ### what is walked -/
def iSeq (f : FE) : FI := fun ρ => match f ρ with
  | some (.ok l (.list ds)) => if lfs ds = true then some (.ok l ds) else none
  | some (.ok _ (.tuple ds)) => if lfs ds = true then some (.ok 2 ds) else none
  | some (.exc c) => some (.exc c)
  | _ => none
def numsTo (n : Nat) : List PyData := (List.range n).map fun (k : Nat) => .int (k : Int)
def iR1 (f : FE) : FI := fun ρ => match f ρ with
  | some (.ok _ (.int n)) => if n.natAbs ≤ big then some (.ok 2 (numsTo n.toNat)) else none
  | some (.exc c) => some (.exc c)
  | _ => none
/-- range(a, -1, -1) -/
def downFrom (n : Nat) : List PyData := (List.range n).map fun (k : Nat) => .int ((n : Int) - 1 - (k : Int))
def iDown (f : FE) : FI := fun ρ => match f ρ with
  | some (.ok _ (.int a)) => if a.natAbs ≤ big then some (.ok 2 (downFrom (a + 1).toNat)) else none
  | some (.exc c) => some (.exc c)
  | _ => none
def intsOf : List PyData → Option (List Int)
  | [] => some []
  | .int i :: r => (intsOf r).map (i :: ·)
  | _ => none
/-- the order of rows of whole numbers -/
def lexL : List Int → List Int → Bool
  | [], [] => false
  | [], _ :: _ => true
  | _ :: _, [] => false
  | x :: xs, y :: ys => if x = y then lexL xs ys else decide (x < y)
/-- the same of a tuple or a list -/
def dListRev : PyData → Option PyData
  | .tuple xs => if (lfs xs && decide (xs.length ≤ big)) = true then some (.list xs.reverse) else none
  | .list xs => if (lfs xs && decide (xs.length ≤ big)) = true then some (.list xs.reverse) else none
  | _ => none
def eListRev : FE → FE := e1 dListRev true
def enumFrom : Nat → List PyData → List PyData
  | _, [] => []
  | n, d :: ds => .tuple [.int (n : Int), d] :: enumFrom (n + 1) ds
def iEnum (f : FE) : FI := fun ρ => match f ρ with
  | some (.ok l (.list ds)) => if lfs ds = true then some (.ok l (enumFrom 0 ds)) else none
  | some (.exc c) => some (.exc c)
  | _ => none
/-! ### statements -/
def asg (l : Nat) (d : PyData) : Option Slot :=
  if lf d = true then some (.loc d) else if 2 ≤ l then (match d with
    | .list ds => if lfs ds = true then some (.own ds) else some (.loc d)
    | _ => some (.loc d)) else none
def bindS (o : Option RE) (ρ : Rho) (k : Nat → PyData → Option RS) : Option RS :=
  match o with
  | none => none
  | some (.exc c) => some (.exc c ρ)
  | some (.ok l d) => k l d
def sNext : FS := fun ρ => some (.next ρ)
def sSeq (a b : FS) : FS := fun ρ => match a ρ with
  | some (.next ρ') => b ρ'
  | r => r
def sSet (i : Nat) (f : FE) : FS := fun ρ => bindS (f ρ) ρ fun l d => (asg l d).map fun s => .next (ρ.set i (some s))
def sRet (f : FE) : FS := fun ρ => bindS (f ρ) ρ fun l d => if (lf d || decide (1 ≤ l)) = true then some (.ret d) else none
def sIf (c : FE) (a b : FS) : FS := fun ρ => bindS (c ρ) ρ fun _ d => match d with
  | .bool true => a ρ
  | .bool false => b ρ
  | _ => none
def sAppend (i : Nat) (f : FE) : FS := fun ρ => match ρ[i]? with
  | some (some (.own xs)) => bindS (f ρ) ρ fun _ d => if (lf d && decide (xs.length < big)) = true then some (.next (ρ.set i (some (.own (xs ++ [d]))))) else none
  | _ => none
def sExtend (i : Nat) (f : FE) : FS := fun ρ => match ρ[i]? with
  | some (some (.own xs)) => bindS (f ρ) ρ fun _ d => match d with
    | .list ys => if (lfs ys && decide (xs.length + ys.length ≤ big)) = true then some (.next (ρ.set i (some (.own (xs ++ ys))))) else none
    | .tuple ys => if (lfs ys && decide (xs.length + ys.length ≤ big)) = true then some (.next (ρ.set i (some (.own (xs ++ ys))))) else none
    | _ => none
  | _ => none
/-- x_j = x_i.pop() -/
def sPop (j i : Nat) : FS := fun ρ => match ρ[i]? with
  | some (some (.own xs)) => (match xs[xs.length - 1]? with
    | some d => if i = j then none else some (.next ((ρ.set i (some (.own xs.dropLast))).set j (some (.loc d))))
    | none => none)
  | _ => none
/-- targets of a loop or an assignment -/
abbrev FT := PyData → Rho → Option Rho
def tgName (i : Nat) : FT := fun d ρ => some (ρ.set i (some (.loc d)))
def tgPair (i j : Nat) : FT := fun d ρ => match d with
  | .tuple [x, y] => some ((ρ.set i (some (.loc x))).set j (some (.loc y)))
  | _ => none
def forGo (tg : FT) (body : FS) : List PyData → Rho → Option RS
  | [], ρ => some (.next ρ)
  | d :: ds, ρ => match tg d ρ with
    | none => none
    | some ρ1 => match body ρ1 with
      | some (.next ρ2) => forGo tg body ds ρ2
      | some (.cont ρ2) => forGo tg body ds ρ2
      | some (.brk ρ2) => some (.next ρ2)
      | r => r
def sFor (it : FI) (tg : FT) (body : FS) : FS := fun ρ => match it ρ with
  | none => none
  | some (.exc c) => some (.exc c ρ)
  | some (.ok l ds) => if 2 ≤ l then forGo tg body ds ρ else none
/-- over a name's list or tuple: its list is no more changed -/
def sForV (i : Nat) (tg : FT) (body : FS) : FS := fun ρ => match ρ[i]? with
  | some (some (.own xs)) => forGo tg body xs (ρ.set i (some (.loc (.list xs))))
  | some (some (.par (.list xs))) => if lfs xs = true then forGo tg body xs ρ else none
  | some (some (.loc (.list xs))) => if lfs xs = true then forGo tg body xs ρ else none
  | some (some (.par (.tuple xs))) => if lfs xs = true then forGo tg body xs ρ else none
  | some (some (.loc (.tuple xs))) => if lfs xs = true then forGo tg body xs ρ else none
  | _ => none
def whileGo (c : FE) (body : FS) : Nat → Rho → Option RS
  | 0, _ => none
  | n + 1, ρ => bindS (c ρ) ρ fun _ d => match d with
    | .bool true => (match body ρ with
      | some (.next ρ') => whileGo c body n ρ'
      | some (.cont ρ') => whileGo c body n ρ'
      | some (.brk ρ') => some (.next ρ')
      | r => r)
    | .bool false => some (.next ρ)
    | _ => none
def wFuel : Nat := 100000
def sWhile (c : FE) (body : FS) : FS := fun ρ => whileGo c body wFuel ρ
/-! ### defs -/
def runB (n : Nat) (b : FS) : FC := fun ds => match b (ds.map (fun d => some (.par d)) ++ List.replicate (n - ds.length) none) with
  | some (.ret d) => some (.ok d)
  | some (.next _) => some (.ok .none)
  | some (.exc c _) => some (.exc c)
  | _ => none
end KT
set_option Elab.async false
set_option linter.all false
set_option maxRecDepth 100000
/-! KT: data of the program as PyData, how a heap bears it, and what an expression and a statement are worth as plain functions of an environment. -/
namespace KT
open PySem L2

/-! ### how a heap bears a datum: P says which addresses its lists may have (P true: of one that is frozen) -/
abbrev PP := Bool → Addr → Prop
def Rl (P : PP) (H : Hp) (a : Addr) (vs : List V) : Prop := (P false a ∧ H a = some (.lst vs)) ∨ (P true a ∧ ∃ o, H a = some (.frz o (.lst vs)))
theorem Rl.rd {P : PP} {H : Hp} {a : Addr} {vs : List V} (h : Rl P H a vs) : Rd H a (.lst vs) := h.elim (fun x => .inl x.2) fun x => .inr x.2
theorem Rd.same {H H' : Hp} (s : Same H H') {a : Addr} {u : HO} (h : Rd H a u) : Rd H' a u := by
  rcases h with h | ⟨o, h⟩
  · exact .inl (s _ _ h)
  · exact .inr ⟨o, s _ _ h⟩
mutual
def Rep (P : PP) (H : Hp) : PyData → V → Prop
  | .none, v => v = .non
  | .bool b, v => v = .bl b
  | .int i, v => v = .int i
  | .str x, v => v = .str x
  | .tuple ds, v => ∃ a vs, v = .ref a ∧ Rd H a (.tup vs) ∧ Reps P H ds vs
  | .list ds, v => ∃ a vs, v = .ref a ∧ Rl P H a vs ∧ Reps P H ds vs
  | .dict kvs, v => ∃ a : Nat, kvs = [(.none, .int a)] ∧ v = .ref a
def Reps (P : PP) (H : Hp) : List PyData → List V → Prop
  | [], vs => vs = []
  | d :: ds, vs => ∃ v r, vs = v :: r ∧ Rep P H d v ∧ Reps P H ds r
end
mutual
theorem Rep.mono {P P' : PP} {H H' : Hp} (hT : ∀ a vs, Rd H a (.tup vs) → Rd H' a (.tup vs)) (hL : ∀ a vs, Rl P H a vs → Rl P' H' a vs) :
    ∀ (d : PyData) (v : V), Rep P H d v → Rep P' H' d v
  | .none, _, h => h
  | .bool _, _, h => h
  | .int _, _, h => h
  | .str _, _, h => h
  | .tuple ds, _, ⟨a, vs, e, h, r⟩ => ⟨a, vs, e, hT a vs h, Reps.mono hT hL ds vs r⟩
  | .list ds, _, ⟨a, vs, e, h, r⟩ => ⟨a, vs, e, hL a vs h, Reps.mono hT hL ds vs r⟩
  | .dict _, _, h => h
theorem Reps.mono {P P' : PP} {H H' : Hp} (hT : ∀ a vs, Rd H a (.tup vs) → Rd H' a (.tup vs)) (hL : ∀ a vs, Rl P H a vs → Rl P' H' a vs) :
    ∀ (ds : List PyData) (vs : List V), Reps P H ds vs → Reps P' H' ds vs
  | [], _, h => h
  | d :: ds, _, ⟨v, r, e, h, t⟩ => ⟨v, r, e, Rep.mono hT hL d v h, Reps.mono hT hL ds r t⟩
end
theorem Rl.same {P : PP} {H H' : Hp} (s : Same H H') {a : Addr} {vs : List V} (h : Rl P H a vs) : Rl P H' a vs := by
  rcases h with ⟨p, h⟩ | ⟨p, o, h⟩
  · exact .inl ⟨p, s _ _ h⟩
  · exact .inr ⟨p, o, s _ _ h⟩
theorem Rl.imp {P P' : PP} {H : Hp} (hP : ∀ z a, P z a → P' z a) {a : Addr} {vs : List V} (h : Rl P H a vs) : Rl P' H a vs := by
  rcases h with ⟨p, h⟩ | ⟨p, o, h⟩
  · exact .inl ⟨hP _ _ p, h⟩
  · exact .inr ⟨hP _ _ p, o, h⟩
theorem Rep.same {P : PP} {H H' : Hp} (s : Same H H') {d : PyData} {v : V} (h : Rep P H d v) : Rep P H' d v :=
  Rep.mono (fun _ _ e => Rd.same s e) (fun _ _ r => r.same s) d v h
theorem Reps.same {P : PP} {H H' : Hp} (s : Same H H') {d : List PyData} {v : List V} (h : Reps P H d v) : Reps P H' d v :=
  Reps.mono (fun _ _ e => Rd.same s e) (fun _ _ r => r.same s) d v h
theorem Rep.imp {P P' : PP} {H : Hp} (hP : ∀ z a, P z a → P' z a) {d : PyData} {v : V} (h : Rep P H d v) : Rep P' H d v :=
  Rep.mono (fun _ _ e => e) (fun _ _ r => r.imp hP) d v h
theorem Reps.imp {P P' : PP} {H : Hp} (hP : ∀ z a, P z a → P' z a) {d : List PyData} {v : List V} (h : Reps P H d v) : Reps P' H d v :=
  Reps.mono (fun _ _ e => e) (fun _ _ r => r.imp hP) d v h
mutual
theorem Rep.free {P P' : PP} {H H' : Hp} (hT : ∀ a vs, Rd H a (.tup vs) → Rd H' a (.tup vs)) : ∀ (d : PyData) (v : V), lf d = true → Rep P H d v → Rep P' H' d v
  | .none, _, _, h => h
  | .bool _, _, _, h => h
  | .int _, _, _, h => h
  | .str _, _, _, h => h
  | .tuple ds, _, f, ⟨a, vs, e, h, r⟩ => ⟨a, vs, e, hT a vs h, Reps.free hT ds vs (by simpa [lf] using f) r⟩
  | .list _, _, f, _ => by simp [lf] at f
  | .dict _, _, f, _ => by simp [lf] at f
theorem Reps.free {P P' : PP} {H H' : Hp} (hT : ∀ a vs, Rd H a (.tup vs) → Rd H' a (.tup vs)) : ∀ (ds : List PyData) (vs : List V), lfs ds = true → Reps P H ds vs → Reps P' H' ds vs
  | [], _, _, h => h
  | d :: ds, _, f, ⟨v, r, e, h, t⟩ => by
    have f' : lf d = true ∧ lfs ds = true := by simpa [lfs] using f
    exact ⟨v, r, e, Rep.free hT d v f'.1 h, Reps.free hT ds r f'.2 t⟩
end
theorem Rep.nl {P P' : PP} {H : Hp} {d : PyData} {v : V} (f : lf d = true) (h : Rep P H d v) : Rep P' H d v := Rep.free (fun _ _ e => e) d v f h
theorem Reps.nl {P P' : PP} {H : Hp} {d : List PyData} {v : List V} (f : lfs d = true) (h : Reps P H d v) : Reps P' H d v := Reps.free (fun _ _ e => e) d v f h
theorem Reps.length {P : PP} {H : Hp} : ∀ {ds : List PyData} {vs : List V}, Reps P H ds vs → vs.length = ds.length
  | [], _, h => by cases (show _ = _ from h); rfl
  | d :: ds, _, ⟨v, r, e, _, t⟩ => by subst e; simp [Reps.length t]
theorem Reps.get {P : PP} {H : Hp} : ∀ {ds : List PyData} {vs : List V} {i : Nat} {d : PyData}, Reps P H ds vs → ds[i]? = some d → ∃ v, vs[i]? = some v ∧ Rep P H d v
  | [], _, _, _, _, e => by simp at e
  | d :: ds, _, 0, d', ⟨v, r, e, h, t⟩, q => by subst e; simp at q; subst q; exact ⟨v, rfl, h⟩
  | d :: ds, _, i + 1, d', ⟨v, r, e, h, t⟩, q => by
    subst e
    obtain ⟨u, q1, q2⟩ := Reps.get (i := i) t (by simpa using q)
    exact ⟨u, by simpa using q1, q2⟩
theorem Reps.append {P : PP} {H : Hp} : ∀ {ds es : List PyData} {vs us : List V}, Reps P H ds vs → Reps P H es us → Reps P H (ds ++ es) (vs ++ us)
  | [], _, _, _, h, t => by cases (show _ = _ from h); exact t
  | d :: ds, _, _, _, ⟨v, r, e, h, t⟩, q => by subst e; exact ⟨v, _, rfl, h, Reps.append t q⟩
theorem Reps.one {P : PP} {H : Hp} {d : PyData} {v : V} (h : Rep P H d v) : Reps P H [d] [v] := ⟨v, [], rfl, h, rfl⟩
theorem Reps.drop {P : PP} {H : Hp} : ∀ {ds : List PyData} {vs : List V} (n : Nat), Reps P H ds vs → Reps P H (ds.drop n) (vs.drop n)
  | _, _, 0, h => h
  | [], _, n + 1, h => by cases (show _ = _ from h); exact rfl
  | d :: ds, _, n + 1, ⟨v, r, e, h, t⟩ => by subst e; exact Reps.drop n t
theorem Reps.take {P : PP} {H : Hp} : ∀ {ds : List PyData} {vs : List V} (n : Nat), Reps P H ds vs → Reps P H (ds.take n) (vs.take n)
  | _, _, 0, h => rfl
  | [], _, n + 1, h => by cases (show _ = _ from h); exact rfl
  | d :: ds, _, n + 1, ⟨v, r, e, h, t⟩ => by subst e; exact ⟨v, _, rfl, h, Reps.take n t⟩
theorem Reps.reverse {P : PP} {H : Hp} : ∀ {ds : List PyData} {vs : List V}, Reps P H ds vs → Reps P H ds.reverse vs.reverse
  | [], _, h => by cases (show _ = _ from h); exact rfl
  | d :: ds, _, ⟨v, r, e, h, t⟩ => by
    subst e
    rw [List.reverse_cons, List.reverse_cons]
    exact Reps.append (Reps.reverse t) (Reps.one h)
/-! ### a datum in the heap at hand, for what the library says of data -/
section
variable {X : Cx} {pins : List (Addr × Obj)} {σ : St} {H : Hp} {s : Shared} {P : PP}
mutual
theorem reads_of (I : Inv X pins σ H s) : ∀ (d : PyData) (v : V) (u : Value), d.canLay0 = true → Rep P H d v → RelV v u → ∃ as, Reads s.heap u d as
  | .none, _, _, _, h, r => by cases (show _ = _ from h); cases r; exact ⟨_, .none⟩
  | .bool b, _, _, _, h, r => by cases (show _ = _ from h); cases r; exact ⟨_, .bool b⟩
  | .int i, _, _, _, h, r => by cases (show _ = _ from h); obtain ⟨t, rfl⟩ := r; exact ⟨_, .int i t⟩
  | .str x, _, _, _, h, r => by cases (show _ = _ from h); obtain ⟨t, rfl⟩ := r; exact ⟨_, .str x t⟩
  | .tuple ds, _, _, c, ⟨a, vs, e, h, t⟩, r => by
    subst e; cases r
    obtain ⟨its, rs, ⟨o, ho, hc, n, hd⟩, _⟩ := I.tuple (.inl h)
    obtain ⟨as, q⟩ := readsAll_of I ds vs its (by simpa [PyData.canLay0] using c) t rs
    exact ⟨_, .tuple ho hc hd q⟩
  | .list ds, _, _, c, ⟨a, vs, e, h, t⟩, r => by
    subst e; cases r
    obtain ⟨its, rs, ⟨o, n, ho, hc, hd0, hd⟩, _⟩ := I.list (.inl h.rd)
    obtain ⟨as, q⟩ := readsAll_of I ds vs its (by simpa [PyData.canLay0] using c) t rs
    exact ⟨_, .list ho hc hd q⟩
  | .dict _, _, _, c, _, _ => by simp [PyData.canLay0] at c
theorem readsAll_of (I : Inv X pins σ H s) : ∀ (ds : List PyData) (vs : List V) (us : List Value), PyData.canLayAll0 ds = true → Reps P H ds vs → Vals vs us → ∃ as, ReadsAll s.heap us ds as
  | [], _, _, _, h, r => by cases (show _ = _ from h); cases r; exact ⟨_, .nil⟩
  | d :: ds, _, _, c, ⟨v, t, e, h, hs⟩, r => by
    subst e
    have c' : d.canLay0 = true ∧ PyData.canLayAll0 ds = true := by simpa [PyData.canLayAll0] using c
    cases r with
    | cons r1 r2 =>
      obtain ⟨as, q⟩ := reads_of I d v _ c'.1 h r1
      obtain ⟨bs, q'⟩ := readsAll_of I ds t _ c'.2 hs r2
      exact ⟨_, .cons q q'⟩
end
end

def PL (H₀ Hs : Hp) : Nat → PP
  | 0 => fun _ _ => True
  | 1 => fun z a => z = false ∧ H₀ a = none
  | _ => fun z a => z = false ∧ Hs a = none
theorem PL.le {H₀ Hs : Hp} (s : Same H₀ Hs) {l m : Nat} (h : l ≤ m) {z : Bool} {a : Addr} (p : PL H₀ Hs m z a) : PL H₀ Hs l z a := by
  match l, m with
  | 0, _ => exact trivial
  | 1, 1 => exact p
  | 1, m + 2 => exact ⟨p.1, s.free p.2⟩
  | l + 2, m + 2 => exact p
  | l + 1, 0 => omega
  | l + 2, 1 => omega
/-- a caught error of the class c: its object, with no dict of its own -/
def XRep (cv : Nat → Value) (H : Hp) (c : Nat) (a : Addr) : Prop := ∃ φ, H a = some (.ext φ) ∧ ∀ h, φ h → ∃ o, h.get? a = some o ∧ o.cls = cv c ∧ o.dict = none ∧ ∃ vs, o.data = .fields vs
theorem XRep.same {cv : Nat → Value} {H H' : Hp} {c : Nat} {a : Addr} (s : Same H H') (h : XRep cv H c a) : XRep cv H' c a := let ⟨φ, e, r⟩ := h; ⟨φ, s _ _ e, r⟩
/-- a dict of True: its keys whole numbers, or tuples within tuples -/
def DR (H : Hp) (ks : List PyData) (a : Addr) : Prop := (∃ is : List Int, ks = is.map .int ∧ H a = some (.dK (is.map fun i => (.inl i, .bl true)))) ∨ (ks ≠ [] ∧ H a = some (.dN ks))
theorem DR.same {H H' : Hp} {ks : List PyData} {a : Addr} (s : Same H H') (h : DR H ks a) : DR H' ks a := by
  rcases h with ⟨is, e, h⟩ | ⟨n, h⟩
  · exact .inl ⟨is, e, s _ _ h⟩
  · exact .inr ⟨n, s _ _ h⟩
def VS (cv : Nat → Value) (H₀ : Hp) (o : Option (Option V)) (H : Hp) : Slot → Prop
  | .par d => ∃ v, o = some (some v) ∧ Rep (fun _ _ => True) H d v
  | .loc d => ∃ v, o = some (some v) ∧ Rep (fun z a => z = false ∧ H₀ a = none) H d v
  | .own ds => ∃ v, o = some (some v) ∧ Rep (fun z a => z = false ∧ H₀ a = none) H (.list ds) v
  | .own2 ds => ∃ v, o = some (some v) ∧ Rep (fun z a => z = false ∧ H₀ a = none) H (.list ds) v
  | .lent ds => ∃ v, o = some (some v) ∧ Rep (fun z a => z = false ∧ H₀ a = none) H (.list ds) v
  | .dct ks => ∃ a, o = some (some (.ref a)) ∧ DR H ks a
  | .ex c => ∃ a, o = some (some (.ref a)) ∧ XRep cv H c a
theorem VS.same {cv : Nat → Value} {H₀ H H' : Hp} {o : Option (Option V)} (s : Same H H') : ∀ {t : Slot}, VS cv H₀ o H t → VS cv H₀ o H' t
  | .par _, ⟨v, e, h⟩ => ⟨v, e, h.same s⟩
  | .loc _, ⟨v, e, h⟩ => ⟨v, e, h.same s⟩
  | .own _, ⟨v, e, h⟩ => ⟨v, e, h.same s⟩
  | .own2 _, ⟨v, e, h⟩ => ⟨v, e, h.same s⟩
  | .lent _, ⟨v, e, h⟩ => ⟨v, e, h.same s⟩
  | .dct _, ⟨a, e, h⟩ => ⟨a, e, h.same s⟩
  | .ex _, ⟨a, e, h⟩ => ⟨a, e, h.same s⟩
/-- the world of an expression: the def's entry heap, the statement's start, the environment -/
structure G (cv : Nat → Value) (H₀ Hs : Hp) (ρ : Rho) (σ : St) (H : Hp) : Prop where
  s0 : Same H₀ Hs
  s1 : Same Hs H
  vr : ∀ (i : Nat) t, ρ[i]? = some (some t) → VS cv H₀ σ[i]? H t
theorem G.same {cv : Nat → Value} {H₀ Hs H H' : Hp} {ρ : Rho} {σ : St} (g : G cv H₀ Hs ρ σ H) (s : Same H H') : G cv H₀ Hs ρ σ H' := ⟨g.s0, g.s1.trans s, fun i t e => (g.vr i t e).same s⟩
abbrev XOF := Nat → St → Hp → Prop
/-- the error classes' values, and what is wanted of an error that leaves -/
structure XOT where
  cv : Nat → Value
  f : XOF
def KK (XO : XOT) (H₀ Hs : Hp) (σ : St) (H : Hp) (Q : VK) (r : RE) : Prop :=
  (∀ l d v H', r = .ok l d → Same H H' → Rep (PL H₀ Hs l) H' d v → Q v H') ∧ ∀ c H', r = .exc c → Same H H' → XO.f c σ H'
theorem KK.same {XO : XOT} {H₀ Hs : Hp} {σ : St} {H H' : Hp} {Q : VK} {r : RE} (k : KK XO H₀ Hs σ H Q r) (s : Same H H') : KK XO H₀ Hs σ H' Q r :=
  ⟨fun l d v H2 e t => k.1 l d v H2 e (s.trans t), fun c H2 e t => k.2 c H2 e (s.trans t)⟩
/-- the reading of an expression that is worth f -/
def tF (XO : XOT) (f : FE) : TE := fun σ H Q => ∃ H₀ Hs ρ r, G XO.cv H₀ Hs ρ σ H ∧ f ρ = some r ∧ KK XO H₀ Hs σ H Q r
theorem tF_bind {XO : XOT} {H₀ Hs : Hp} {ρ : Rho} {σ : St} {H : Hp} {Q Q' : VK} {fa : FE} {k : Nat → PyData → Option RE} {r : RE} (g : G XO.cv H₀ Hs ρ σ H) (e : bindE (fa ρ) k = some r) (kk : KK XO H₀ Hs σ H Q r)
    (cont : ∀ l d v H1, Same H H1 → G XO.cv H₀ Hs ρ σ H1 → Rep (PL H₀ Hs l) H1 d v → k l d = some r → KK XO H₀ Hs σ H1 Q r → Q' v H1) : tF XO fa σ H Q' := by
  cases h : fa ρ with
  | none => rw [h] at e; cases e
  | some x =>
    rw [h] at e
    cases x with
    | exc c =>
      cases (Option.some.inj e)
      exact ⟨H₀, Hs, ρ, .exc c, g, h, ⟨fun l d v H' e => (nomatch e), kk.2⟩⟩
    | ok l d =>
      refine ⟨H₀, Hs, ρ, .ok l d, g, h, ⟨fun l' d' v H' e' s rp => ?_, fun c H' e => (nomatch e)⟩⟩
      cases e'
      exact cont l d v H' s (g.same s) rp e (kk.same s)
theorem KK.give {XO : XOT} {H₀ Hs : Hp} {σ : St} {H : Hp} {Q : VK} {r : RE} {l : Nat} {d : PyData} {v : V} {H' : Hp} (kk : KK XO H₀ Hs σ H Q r) (e : some (RE.ok l d) = some r) (s : Same H H') (rp : Rep (PL H₀ Hs l) H' d v) : Q v H' :=
  kk.1 l d v H' (Option.some.inj e).symm s rp

/-! ### constants, names -/
section
variable {X : Cx} {XO : XOT} {a b c : Expr} {fa fb fc : FE} {pos : Pos}
theorem PE.imp {e : Expr} {t t' : TE} (h : PE X e t) (f : ∀ σ H Q, t' σ H Q → t σ H Q) : PE X e t' := fun pins s σ H Q I q => h pins s σ H Q I (f σ H Q q)
theorem PT.imp {e : Expr} {t t' : TT} (h : PT X e t) (f : ∀ σ H Q, t' σ H Q → t σ H Q) : PT X e t' := fun pins s σ H Q I q => h pins s σ H Q I (f σ H Q q)
theorem PS.imp {e : Stmt} {t t' : TS} (h : PS X e t) (f : ∀ D σ H, t' D σ H → t D σ H) : PS X e t' := fun pins s σ H D I q => h pins s σ H D I (f D σ H q)
theorem x_int {i : Int} {j pos} : PE X (.Constant (.int i) j pos) (tF XO (eC (.int i))) := PE.imp pe_int fun σ H Q ⟨H₀, Hs, ρ, r, g, e, kk⟩ => kk.give e (Same.refl _) rfl
theorem x_str {i : Str} {j pos} : PE X (.Constant (.str i) j pos) (tF XO (eC (.str i))) := PE.imp pe_str fun σ H Q ⟨H₀, Hs, ρ, r, g, e, kk⟩ => kk.give e (Same.refl _) rfl
theorem x_bl {i : Bool} {j pos} : PE X (.Constant (.bool i) j pos) (tF XO (eC (.bool i))) := PE.imp pe_bl fun σ H Q ⟨H₀, Hs, ρ, r, g, e, kk⟩ => kk.give e (Same.refl _) rfl
theorem x_non {j pos} : PE X (.Constant .none j pos) (tF XO (eC .none)) := PE.imp pe_non fun σ H Q ⟨H₀, Hs, ρ, r, g, e, kk⟩ => kk.give e (Same.refl _) rfl
theorem x_var (i : Nat) {x : Str} {pos : Pos} (hN : X.N[i]? = some x := by rfl) (hv : Vis X.env.scope x := by first | exact Or.inl rfl | exact Or.inr (Or.inl rfl) | exact Or.inr (Or.inr rfl)) (hd : (x == ("__debug__" : Str)) = false := by decide)
    (hcd : (x == ("__classdict__" : Str)) = false := by decide) : PE X (.Name x pos) (tF XO (eVar i)) := PE.imp (pe_var hN hv hd hcd) fun σ H Q ⟨H₀, Hs, ρ, r, g, e, kk⟩ => by
  unfold eVar at e
  have vr := g.vr i
  split at e
  · rename_i d hρ
    obtain ⟨v, h1, h2⟩ := vr _ hρ
    exact ⟨v, h1, kk.give e (Same.refl _) h2⟩
  · rename_i d hρ
    obtain ⟨v, h1, h2⟩ := vr _ hρ
    exact ⟨v, h1, kk.give e (Same.refl _) h2⟩
  · rename_i d hρ
    obtain ⟨v, h1, h2⟩ := vr _ hρ
    exact ⟨v, h1, kk.give e (Same.refl _) h2⟩
  · rename_i d hρ
    obtain ⟨v, h1, h2⟩ := vr _ hρ
    exact ⟨v, h1, kk.give e (Same.refl _) h2⟩
  · rename_i d hρ
    obtain ⟨v, h1, h2⟩ := vr _ hρ
    exact ⟨v, h1, kk.give e (Same.refl _) h2⟩
  · cases e

/-! ### two-place operations -/
/-- the operation r on values does what op does on data -/
def OpD (r : R2) (op : PyData → PyData → Option PyData) (fr : Bool) : Prop :=
  ∀ (H₀ Hs H : Hp) (l m : Nat) (x y d : PyData) (v u : V) (Q : VK), Same H₀ Hs → Same Hs H → op x y = some d → Rep (PL H₀ Hs l) H x v → Rep (PL H₀ Hs m) H y u →
    (∀ z H', Same H H' → Rep (PL H₀ Hs (if fr then 2 else min l m)) H' d z → Q z H') → r v u H Q
theorem e2_read {r : R2} {op : PyData → PyData → Option PyData} {fr : Bool} (ho : OpD r op fr) {σ : St} {H : Hp} {Q : VK} (h : tF XO (e2 op fr fa fb) σ H Q) : tOp r (tF XO fa) (tF XO fb) σ H Q := by
  obtain ⟨H₀, Hs, ρ, rr, g, e, kk⟩ := h
  refine tF_bind g e kk fun l x v H1 s1 g1 r1 e1 k1 => ?_
  refine tF_bind g1 e1 k1 fun m y u H2 s2 g2 r2 e2' k2 => ?_
  cases hd : op x y with
  | none => rw [hd] at e2'; cases e2'
  | some d =>
    rw [hd] at e2'
    exact ho H₀ Hs H2 l m x y d v u Q g2.s0 g2.s1 hd (r1.same s2) r2 fun z H' s rp => k2.give e2' s rp
theorem x_op {op : Operator} {r : R2} {f : PyData → PyData → Option PyData} {fr : Bool} (ho : OpR X (binaryOp op) r) (hd : OpD r f fr) (ha : PE X a (tF XO fa)) (hb : PE X b (tF XO fb)) : PE X (.BinOp a op b pos) (tF XO (e2 f fr fa fb)) :=
  PE.imp (pe_op ho ha hb) fun _ _ _ h => e2_read hd h
theorem x_cmp {op : CmpOp} {r : R2} {f : PyData → PyData → Option PyData} {fr : Bool} (ho : OpR X (compareOp op) r) (hd : OpD r f fr) (ha : PE X a (tF XO fa)) (hb : PE X b (tF XO fb)) (hm : behindInMarks op b = false) : PE X (.Compare a [op] [b] pos) (tF XO (e2 f fr fa fb)) :=
  PE.imp (pe_cmpR ho ha hb hm) fun _ _ _ h => e2_read hd h
theorem x_ix {r : R2} {f : PyData → PyData → Option PyData} {fr : Bool} (ho : IxR X r) (hd : OpD r f fr) (ha : PE X a (tF XO fa)) (hb : PE X b (tF XO fb)) (hs : PlainIx b) : PE X (.Subscript a b pos) (tF XO (e2 f fr fa fb)) :=
  PE.imp (pe_ix ho ha hb hs) fun _ _ _ h => e2_read hd h
end
end KT
set_option Elab.async false
set_option linter.all false
set_option maxRecDepth 100000
namespace KT
open PySem PySem.Spec PyProof.Rows L2

theorem same_new {H : Hp} {p : Addr} (h : H p = none) (o : HO) : Same H (upd H p o) := fun b u q => by rw [upd_ne (ne_of_none q h)]; exact q
theorem big_le : big ≤ sizeLine := by decide
theorem le_big {n : Nat} (h : n ≤ big) : n ≤ sizeLine := Nat.le_trans h big_le

section
variable {X : Cx} {XO : XOT} {a b c : Expr} {fa fb fc : FE} {pos : Pos}

/-! ### + -/
def rCatE : R2 := fun x y H Q => ∃ a b ys, x = .ref a ∧ y = .ref b ∧ Rd H a (.tup []) ∧ Rd H b (.tup ys) ∧ Q (.ref b) H
theorem op_catE : OpR X (binaryOp .Add) rCatE := by
  intro pins s σ H x y v u Q I rx ry h
  obtain ⟨a, b, ys, rfl, rfl, ha, hb, q⟩ := h
  cases rx
  cases ry
  obtain ⟨its, r1, p1, _⟩ := I.tuple (.inl ha)
  obtain ⟨its2, r2, p2, _⟩ := I.tuple (.inl hb)
  obtain ⟨⟨cls, dd, data, sl⟩, ho, hc, n, hd⟩ := id p1
  obtain ⟨⟨cls2, dd2, data2, sl2⟩, ho2, hc2, n2, hd2⟩ := id p2
  simp only at hc hd hc2 hd2
  subst hc hd hc2 hd2
  have hv : its = [] := r1.nil_iff.mpr rfl
  exact concat_meets ⟨_, ho, rfl⟩ ⟨_, ho2, rfl⟩ noFill_tuple_add seq_tuple_add PySem.F.slot_tuple_add PySem.F.entry_tuple_add (PySem.F.args_tuple_add_2 _ _)
    (tuple_addW0 a b its.toArray its2.toArray n n2 dd dd2 sl sl2 (by simp [hv])) ⟨ho, ho2, ⟨.ref b, H, I, rfl, q⟩⟩
theorem lstR {pins : List (Addr × Obj)} {σ : L2.St} {H : Hp} {s : Shared} {l : Addr} {xs : List V} (I : Inv X pins σ H s) (hH : Rd H l (.lst xs)) :
    xs.length ≤ sizeLine ∧ ∃ (its : List Value) (n : Nat), Vals xs its ∧ xs.length = its.length ∧ s.heap.get? l = some { cls := .type "list", data := .seq its.toArray n } := by
  obtain ⟨z, its, n, r, e⟩ := hH.ok I.hok
  exact ⟨z, its, n, r, r.length, e⟩
def rCatR : R2 := fun x y H Q => ∃ l b xs zs, x = .ref l ∧ y = .ref b ∧ Rd H l (.lst xs) ∧ Rd H b (.lst zs) ∧ xs.length + zs.length ≤ sizeLine ∧ ∀ p, H p = none → Q (.ref p) (upd H p (.lst (xs ++ zs)))
theorem op_catR : OpR X (binaryOp .Add) rCatR := by
  intro pins s σ H x y v u Q I rx ry h
  obtain ⟨l, b, xs, zs, rfl, rfl, hH, hB, hz, q⟩ := h
  cases rx
  cases ry
  obtain ⟨z, its, n, r, hl, e⟩ := lstR I hH
  obtain ⟨z2, its2, n2, r2, hl2, e2⟩ := lstR I hB
  refine PySem.P.add_list e e2 ?_ (by rw [List.size_toArray, List.size_toArray]; omega)
  have ea : its.toArray ++ its2.toArray = (its ++ its2).toArray := by simp
  rw [ea]
  exact ⟨.ref _, _, I.lnew (t' := s.toks) (r.append r2) (by rw [List.length_append]; omega), rfl, q _ I.fresh⟩
def rAddS : R2 := fun x y H Q => ∃ i j, x = .str i ∧ y = .str j ∧ i.length + j.length ≤ sizeLine ∧ Q (.str (i ++ j)) H
def rAddD (K : PySem.W.Frag) : R2 := fun x y H Q => rI0 (fun i j => .int (i + j)) x y H Q ∨ rAddS x y H Q ∨ rCatT K x y H Q ∨ rCatE x y H Q ∨ rCatR x y H Q
theorem op_addD : OpR X (binaryOp .Add) (rAddD X.K) := op_add.or (OpR.or op_add_str (op_catT.or (op_catE.or op_catR)))
theorem od_add {K : PySem.W.Frag} : OpD (rAddD K) dAdd true := by
  intro H₀ Hs H l m x y d v u Q s0 s1 e rx ry q
  unfold dAdd at e
  split at e
  · rename_i i j
    cases (show v = .int i from rx); cases (show u = .int j from ry); cases e
    exact .inl ⟨i, j, rfl, rfl, q _ H (Same.refl H) rfl⟩
  · rename_i x y
    split at e
    · rename_i hz
      cases (show v = .str x from rx); cases (show u = .str y from ry); cases e
      exact .inr (.inl ⟨x, y, rfl, rfl, le_big hz, q _ H (Same.refl H) rfl⟩)
    · cases e
  · rename_i xs ys
    split at e
    · rename_i hz
      simp only [Bool.and_eq_true, decide_eq_true_eq] at hz
      obtain ⟨⟨f1, f2⟩, hz⟩ := hz
      cases e
      obtain ⟨pa, vs, rfl, ha, ra⟩ := rx
      obtain ⟨pb, us, rfl, hb, rb⟩ := ry
      have l1 := ra.length
      have l2 := rb.length
      by_cases hv : vs = []
      · subst hv
        have : xs = [] := by cases xs with | nil => rfl | cons _ _ => simp at l1
        subst this
        exact .inr (.inr (.inr (.inl ⟨pa, pb, us, rfl, rfl, ha, hb, q _ H (Same.refl H) ⟨pb, us, rfl, hb, rb.nl f2⟩⟩)))
      · refine .inr (.inr (.inl ⟨pa, pb, vs, us, rfl, rfl, .inl ha, .inl hb, hv, by rw [l1, l2]; exact le_big hz, fun hu => ?_, fun hu p hp => ?_⟩))
        · subst hu
          have : ys = [] := by cases ys with | nil => rfl | cons _ _ => simp at l2
          subst this
          rw [List.append_nil] at q
          exact q _ H (Same.refl H) ⟨pa, vs, rfl, ha, ra.nl f1⟩
        · exact q _ _ (same_new hp _) ⟨p, _, rfl, (.inl upd_same), ((ra.nl f1).append (rb.nl f2)).same (same_new hp _)⟩
    · cases e
  · rename_i xs ys
    split at e
    · rename_i hz
      simp only [Bool.and_eq_true, decide_eq_true_eq] at hz
      obtain ⟨⟨f1, f2⟩, hz⟩ := hz
      cases e
      obtain ⟨pa, vs, rfl, ha, ra⟩ := rx
      obtain ⟨pb, us, rfl, hb, rb⟩ := ry
      have l1 := ra.length
      have l2 := rb.length
      refine .inr (.inr (.inr (.inr ⟨pa, pb, vs, us, rfl, rfl, ha.rd, hb.rd, by rw [l1, l2]; exact le_big hz, fun p hp => ?_⟩)))
      exact q _ _ (same_new hp _) ⟨p, _, rfl, .inl ⟨⟨rfl, s1.free hp⟩, upd_same⟩, ((ra.nl f1).append (rb.nl f2)).same (same_new hp _)⟩
    · cases e
  · cases e
theorem x_add (ha : PE X a (tF XO fa)) (hb : PE X b (tF XO fb)) : PE X (.BinOp a .Add b pos) (tF XO (eAdd fa fb)) := x_op op_addD od_add ha hb

/-! ### the other operations on ints -/
theorem od_int {C : Int → Int → Prop} {g : Int → Int → Int} {f : PyData → PyData → Option PyData} (hf : ∀ x y d, f x y = some d → ∃ i j, x = .int i ∧ y = .int j ∧ C i j ∧ d = .int (g i j)) : OpD (rI C fun i j => .int (g i j)) f true := by
  intro H₀ Hs H l m x y d v u Q s0 s1 e rx ry q
  obtain ⟨i, j, rfl, rfl, hc, rfl⟩ := hf x y d e
  cases (show v = .int i from rx); cases (show u = .int j from ry)
  exact ⟨i, j, rfl, rfl, hc, q _ H (Same.refl H) rfl⟩
theorem op_sub' : OpR X (binaryOp .Sub) (rI (fun _ _ => True) fun i j => .int (i - j)) := opI fun _ _ _ _ _ _ _ _ q => sub_int q
theorem x_sub (ha : PE X a (tF XO fa)) (hb : PE X b (tF XO fb)) : PE X (.BinOp a .Sub b pos) (tF XO (eSub fa fb)) :=
  x_op op_sub' (od_int fun x y d e => by unfold dSub at e; split at e <;> first | (cases e; exact ⟨_, _, rfl, rfl, trivial, rfl⟩) | cases e) ha hb
theorem bits_lim {i : Int} (h : i.natAbs < lim) : Builtin.Int.intBits i ≤ 2 ^ 20 := by
  unfold Builtin.Int.intBits
  split
  · exact Nat.zero_le _
  · rename_i h0
    have h1 : i.natAbs ≠ 0 := by
      intro z
      exact h0 (by simp [Int.natAbs_eq_zero.mp z])
    have h2 : i.natAbs.log2 < 256 := (Nat.log2_lt h1).mpr h
    have h3 : (256 : Nat) ≤ 2 ^ 20 := by decide
    omega
theorem CMulD.ok {i j : Int} (h : CMulD i j) : IntMulOk i j := by
  rcases h with h | h | ⟨h1, h2⟩
  · exact IntMulOk.of_left (intBits_le_64 (by omega) (by omega))
  · exact IntMulOk.of_right (intBits_le_64 (by omega) (by omega))
  · exact IntMulOk.of_bits (bits_lim h1) (bits_lim h2)
theorem op_mulI : OpR X (binaryOp .Mult) (rI CMulD fun i j => .int (i * j)) := opI fun _ _ _ _ _ _ _ hc q => mul_int q hc.ok
/-- a list times an int, of any list that is read -/
def rRepR : R2 := fun x y H Q => ∃ l k xs, x = .ref l ∧ y = .int k ∧ Rd H l (.lst xs) ∧ -(2 ^ 63) ≤ k ∧ k < 2 ^ 63 ∧ xs.length * k.toNat ≤ sizeLine ∧
  ∀ p, H p = none → Q (.ref p) (upd H p (.lst (List.replicate k.toNat xs).flatten))
theorem op_repR : OpR X (binaryOp .Mult) rRepR := by
  intro pins s σ H x y v u Q I rx ry h
  obtain ⟨l, k, xs, rfl, rfl, hH, h1, h2, hz, q⟩ := h
  cases rx
  obtain ⟨t, rfl⟩ := ry
  obtain ⟨z, its, n, r, hl, e⟩ := lstR I hH
  have hlen : its.toArray.size * k.toNat ≤ sizeLine := by rw [List.size_toArray, ← hl]; exact hz
  have hcap : ¬ its.toArray.size * k.toNat > (2 ^ 63 - 1) / 8 := by
    have : (sizeLine : Nat) ≤ (2 ^ 63 - 1) / 8 := by decide
    omega
  have hfit : ¬ (!Builtin.List.listFitsIndex k) = true := by
    rw [fitsIndex_both h1 h2]
    exact Bool.false_ne_true
  have hlong : ¬ Builtin.List.listTooLong (its.toArray.size * k.toNat) = true := by
    rw [notLongL hlen]
    exact Bool.false_ne_true
  have hnew : List.foldl (fun x1 x2 => x1 ++ x2) #[] (List.replicate (if its.toArray.isEmpty = true then 0 else k.toNat) its.toArray) = (List.replicate k.toNat its).flatten.toArray := by
    have f0 : ∀ m : Nat, List.foldl (fun x1 x2 => x1 ++ x2) #[] (List.replicate m its.toArray) = (List.replicate m its).flatten.toArray := fun m => by
      have := foldl_rep its m []
      rw [List.nil_append] at this
      exact this
    rw [f0]
    cases its with
    | nil => simp
    | cons a r' => rw [if_neg (by simp)]
  refine wpAny_binaryOp_repeat_ref (T := "list") (U := "int") (by decide) ⟨_, e, rfl⟩ (fun s' => typeIs_int s' k t) noFill_list_mul F.fills_int_mul F.slot_int_rmul repeat_list F.slot_int_index.lookup
    (call_meets F.slot_int_rmul (typeIs_int s k t) F.entry_int_rmul (F.args_int_rmul_2 _ _) (int___rmul___int_list k t l its.toArray n)
      ⟨e, rfl, ⟨_, e, rfl⟩, call_meets F.slot_list_mul ⟨_, e, rfl⟩ F.entry_list_mul (F.args_list_mul_2 _ _) (AutoListH.list___mul___list_int_3 l its.toArray n k t hfit hcap hlong) ⟨e, ?_⟩⟩)
  rw [hnew]
  exact ⟨.ref _, _, I.lnew (t' := s.toks) (r.rep k.toNat) (by rw [len_rep, Nat.mul_comm]; exact hz), rfl, q _ I.fresh⟩
theorem Reps.rep {P : PP} {H : Hp} {ds : List PyData} {vs : List V} (h : Reps P H ds vs) : ∀ k : Nat, Reps P H (List.replicate k ds).flatten (List.replicate k vs).flatten
  | 0 => rfl
  | k + 1 => by
    rw [List.replicate_succ, List.replicate_succ, List.flatten_cons, List.flatten_cons]
    exact h.append (Reps.rep h k)
def rMulD : R2 := fun x y H Q => rI CMulD (fun i j => .int (i * j)) x y H Q ∨ rRepR x y H Q
theorem od_mul : OpD rMulD dMul true := by
  intro H₀ Hs H l m x y d v u Q s0 s1 e rx ry q
  unfold dMul at e
  split at e
  · rename_i i j
    split at e
    · rename_i hc
      cases (show v = .int i from rx); cases (show u = .int j from ry); cases e
      exact .inl ⟨i, j, rfl, rfl, hc, q _ H (Same.refl H) rfl⟩
    · cases e
  · rename_i xs k
    split at e
    · rename_i hz
      simp only [Bool.and_eq_true, decide_eq_true_eq] at hz
      obtain ⟨⟨f1, hz⟩, hk⟩ := hz
      cases e
      obtain ⟨pa, vs, rfl, ha, ra⟩ := rx
      cases (show u = .int k from ry)
      have l1 := ra.length
      have hb : big < 2 ^ 63 := by decide
      refine .inr ⟨pa, k, vs, rfl, rfl, ha.rd, by omega, by omega, by rw [l1]; exact le_big hz, fun p hp => ?_⟩
      exact q _ _ (same_new hp _) ⟨p, _, rfl, .inl ⟨⟨rfl, s1.free hp⟩, upd_same⟩, ((ra.nl f1).rep _).same (same_new hp _)⟩
    · cases e
  · cases e
theorem x_mul (ha : PE X a (tF XO fa)) (hb : PE X b (tF XO fb)) : PE X (.BinOp a .Mult b pos) (tF XO (eMul fa fb)) := x_op (op_mulI.or op_repR) od_mul ha hb
theorem op_divI : OpR X (binaryOp .FloorDiv) (rI (fun _ j => 0 < j ∧ j.natAbs < lim) fun i j => .int (i / j)) := opI fun i j _ _ _ _ _ hc q => by
  have h0 : j ≠ 0 := by omega
  refine floordiv_int h0 ?_ (.inl (PyProof.noPylong_of_log2 ?_))
  · rw [Int.fdiv_eq_ediv_of_nonneg _ (by omega)]
    exact q
  · have h1 : j.natAbs ≠ 0 := by omega
    have h2 : j.natAbs.log2 < 256 := (Nat.log2_lt h1).mpr hc.2
    omega
theorem x_div (ha : PE X a (tF XO fa)) (hb : PE X b (tF XO fb)) : PE X (.BinOp a .FloorDiv b pos) (tF XO (eDiv fa fb)) :=
  x_op op_divI (od_int fun x y d e => by
    unfold dDiv at e
    split at e
    · split at e
      · rename_i hc; cases e; exact ⟨_, _, rfl, rfl, hc, rfl⟩
      · cases e
    · cases e) ha hb
theorem x_mod (ha : PE X a (tF XO fa)) (hb : PE X b (tF XO fb)) : PE X (.BinOp a .Mod b pos) (tF XO (eMod fa fb)) :=
  x_op op_mod (od_int fun x y d e => by
    unfold dMod at e
    split at e
    · split at e
      · rename_i hc; cases e; exact ⟨_, _, rfl, rfl, hc, rfl⟩
      · cases e
    · cases e) ha hb
theorem x_pow (ha : PE X a (tF XO fa)) (hb : PE X b (tF XO fb)) : PE X (.BinOp a .Pow b pos) (tF XO (ePow fa fb)) :=
  x_op op_pow (od_int fun x y d e => by
    unfold dPow at e
    split at e
    · split at e
      · rename_i hc; cases e; exact ⟨_, _, rfl, rfl, ⟨hc.1, by omega, hc.2.2⟩, rfl⟩
      · cases e
    · cases e) ha hb
/-! ### one-place operations -/
def OpD1 (r : V → Hp → VK → Prop) (op : PyData → Option PyData) (fr : Bool) : Prop :=
  ∀ (H₀ Hs H : Hp) (l : Nat) (x d : PyData) (v : V) (Q : VK), Same H₀ Hs → Same Hs H → op x = some d → Rep (PL H₀ Hs l) H x v →
    (∀ z H', Same H H' → Rep (PL H₀ Hs (if fr then 2 else l)) H' d z → Q z H') → r v H Q
theorem e1_read {r : V → Hp → VK → Prop} {op : PyData → Option PyData} {fr : Bool} (ho : OpD1 r op fr) {σ : L2.St} {H : Hp} {Q : VK} (h : tF XO (e1 op fr fa) σ H Q) : tF XO fa σ H fun x H1 => r x H1 Q := by
  obtain ⟨H₀, Hs, ρ, rr, g, e, kk⟩ := h
  refine tF_bind g e kk fun l x v H1 s1 g1 r1 e1 k1 => ?_
  cases hd : op x with
  | none => rw [hd] at e1; cases e1
  | some d =>
    rw [hd] at e1
    exact ho H₀ Hs H1 l x d v Q g1.s0 g1.s1 hd r1 fun z H' s rp => k1.give e1 s rp
theorem x_neg (ha : PE X a (tF XO fa)) : PE X (.UnaryOp .USub a pos) (tF XO (eNeg fa)) :=
  PE.imp (pe_un un_neg ha) fun _ _ _ h => e1_read (op := dNeg) (fun H₀ Hs H l x d v Q s0 s1 e rx q => by
    unfold dNeg at e
    split at e
    · rename_i i
      cases (show v = .int i from rx); cases e
      exact ⟨i, rfl, q _ H (Same.refl H) rfl⟩
    · cases e) h
end
end KT
set_option Elab.async false
set_option linter.all false
set_option maxRecDepth 100000
namespace KT
open PySem PySem.Spec PyProof.Rows L2

/-- what a body's context is asked for -/
structure BC (X : Cx) : Prop where
  hu : X.A.units + 64 < cLine
  mlen : X.mg "len" = none
  mint : X.mg "int" = none
  mbool : X.mg "bool" = none
  mstr : X.mg "str" = none
  mtuple : X.mg "tuple" = none
  mlist : X.mg "list" = none
  misi : X.mg "isinstance" = none
  mrange : X.mg "range" = none
  menum : X.mg "enumerate" = none
  mzip : X.mg "zip" = none
  mrev : X.mg "reversed" = none

section
variable {X : Cx} {XO : XOT} {a b c : Expr} {fa fb fc : FE} {pos : Pos}

/-! ### == and != of data -/
def rEqD (neg : Bool) : R2 := fun x y H Q => ∃ (P1 P2 : PP) (d1 d2 : PyData), Rep P1 H d1 x ∧ Rep P2 H d2 y ∧ d1.canLay0 = true ∧ d2.canLay0 = true ∧ min d1.depth d2.depth ≤ 60 ∧ Q (.bl (if neg then !PyData.eqv d1 d2 else PyData.eqv d1 d2)) H
theorem op_eqD (hu : X.A.units + 64 < cLine) : OpR X (compareOp .Eq) (rEqD false) := by
  intro pins s σ H x y v u Q I rx ry h
  obtain ⟨P1, P2, d1, d2, r1, r2, c1, c2, hd, q⟩ := h
  obtain ⟨as, ra⟩ := reads_of I d1 x v c1 r1 rx
  obtain ⟨bs, rb⟩ := reads_of I d2 y u c2 r2 ry
  exact SeqAt.compareEq_reads ra rb c1 c2 (by omega) ⟨.bl _, H, I, rfl, q⟩
theorem op_neD (hu : X.A.units + 64 < cLine) : OpR X (compareOp .NotEq) (rEqD true) := by
  intro pins s σ H x y v u Q I rx ry h
  obtain ⟨P1, P2, d1, d2, r1, r2, c1, c2, hd, q⟩ := h
  obtain ⟨as, ra⟩ := reads_of I d1 x v c1 r1 rx
  obtain ⟨bs, rb⟩ := reads_of I d2 y u c2 r2 ry
  exact SeqAt.compareNe_reads ra rb c1 c2 (by omega) ⟨.bl _, H, I, rfl, q⟩
theorem dEqB_cases {x y : PyData} {b : Bool} (h : dEqB x y = some b) : (∃ i j, x = .int i ∧ y = .int j ∧ b = (i == j)) ∨ (∃ i j, x = .str i ∧ y = .str j ∧ b = (i == j)) ∨ (∃ i j, x = .bool i ∧ y = .bool j ∧ b = (i == j)) ∨ (eqOk x y = true ∧ b = PyData.eqv x y) := by
  unfold dEqB at h
  split at h
  · cases h; exact .inl ⟨_, _, rfl, rfl, rfl⟩
  · cases h; exact .inr (.inl ⟨_, _, rfl, rfl, rfl⟩)
  · cases h; exact .inr (.inr (.inl ⟨_, _, rfl, rfl, rfl⟩))
  · split at h
    · rename_i hk; cases h; exact .inr (.inr (.inr ⟨hk, rfl⟩))
    · cases h
theorem eqOk_iff {x y : PyData} (h : eqOk x y = true) : x.canLay0 = true ∧ y.canLay0 = true ∧ min x.depth y.depth ≤ 60 := by
  simp only [eqOk, Bool.and_eq_true, decide_eq_true_eq] at h
  exact ⟨h.1.1, h.1.2, h.2⟩
theorem od_eq : OpD (fun x y H Q => rEq x y H Q ∨ rEqD false x y H Q) dEq true := by
  intro H₀ Hs H l m x y d v u Q s0 s1 e rx ry q
  unfold dEq at e
  cases hb : dEqB x y with
  | none => rw [hb] at e; cases e
  | some k =>
    rw [hb] at e
    cases e
    rcases dEqB_cases hb with ⟨i, j, rfl, rfl, rfl⟩ | ⟨i, j, rfl, rfl, rfl⟩ | ⟨i, j, rfl, rfl, rfl⟩ | ⟨hk, rfl⟩
    · cases (show v = .int i from rx); cases (show u = .int j from ry)
      exact .inl ⟨rfl, q _ H (Same.refl H) (by rw [dec_int]; rfl)⟩
    · cases (show v = .str i from rx); cases (show u = .str j from ry)
      exact .inl ⟨rfl, q _ H (Same.refl H) (by rw [dec_str]; rfl)⟩
    · cases (show v = .bl i from rx); cases (show u = .bl j from ry)
      exact .inl ⟨rfl, q _ H (Same.refl H) (by rw [dec_bl]; rfl)⟩
    · obtain ⟨c1, c2, hd⟩ := eqOk_iff hk
      exact .inr ⟨_, _, x, y, rx, ry, c1, c2, hd, q _ H (Same.refl H) rfl⟩
theorem od_ne : OpD (fun x y H Q => rNe x y H Q ∨ rEqD true x y H Q) dNe true := by
  intro H₀ Hs H l m x y d v u Q s0 s1 e rx ry q
  unfold dNe at e
  cases hb : dEqB x y with
  | none => rw [hb] at e; cases e
  | some k =>
    rw [hb] at e
    cases e
    rcases dEqB_cases hb with ⟨i, j, rfl, rfl, rfl⟩ | ⟨i, j, rfl, rfl, rfl⟩ | ⟨i, j, rfl, rfl, rfl⟩ | ⟨hk, rfl⟩
    · cases (show v = .int i from rx); cases (show u = .int j from ry)
      exact .inl ⟨rfl, q _ H (Same.refl H) (by rw [dec_int]; rfl)⟩
    · cases (show v = .str i from rx); cases (show u = .str j from ry)
      exact .inl ⟨rfl, q _ H (Same.refl H) (by rw [dec_str]; rfl)⟩
    · cases (show v = .bl i from rx); cases (show u = .bl j from ry)
      exact .inl ⟨rfl, q _ H (Same.refl H) (by rw [dec_bl]; rfl)⟩
    · obtain ⟨c1, c2, hd⟩ := eqOk_iff hk
      exact .inr ⟨_, _, x, y, rx, ry, c1, c2, hd, q _ H (Same.refl H) rfl⟩
/-! ### in, not in -/
def rInD (neg : Bool) : R2 := fun x y H Q => ∃ (P1 P2 : PP) (d1 : PyData) (ds : List PyData), Rep P1 H d1 x ∧ (Rep P2 H (.list ds) y ∨ Rep P2 H (.tuple ds) y) ∧ d1.canLay0 = true ∧ PyData.canLayAll0 ds = true ∧ min (PyData.depthAll ds) d1.depth ≤ 60 ∧
  Q (.bl (if neg then !(ds.any fun y => PyData.eqv y d1) else ds.any fun y => PyData.eqv y d1)) H
theorem op_inD (hu : X.A.units + 64 < cLine) : OpR X (compareOp .In) (rInD false) := by
  intro pins s σ H x y v u Q I rx ry h
  obtain ⟨P1, P2, d1, ds, r1, r2, c1, c2, hd, q⟩ := h
  obtain ⟨as, ra⟩ := reads_of I d1 x v c1 r1 rx
  rcases r2 with r2 | r2
  · obtain ⟨bs, rb⟩ := reads_of I _ y u (by simpa [PyData.canLay0] using c2) r2 ry
    exact SeqAt.in_list_reads rb ra c2 c1 (by omega) ⟨.bl _, H, I, rfl, q⟩
  · obtain ⟨bs, rb⟩ := reads_of I _ y u (by simpa [PyData.canLay0] using c2) r2 ry
    exact SeqAt.in_tuple_reads rb ra c2 c1 (by omega) ⟨.bl _, H, I, rfl, q⟩
theorem op_notInD (hu : X.A.units + 64 < cLine) : OpR X (compareOp .NotIn) (rInD true) := by
  intro pins s σ H x y v u Q I rx ry h
  obtain ⟨P1, P2, d1, ds, r1, r2, c1, c2, hd, q⟩ := h
  obtain ⟨as, ra⟩ := reads_of I d1 x v c1 r1 rx
  rcases r2 with r2 | r2
  · obtain ⟨bs, rb⟩ := reads_of I _ y u (by simpa [PyData.canLay0] using c2) r2 ry
    exact SeqAt.notIn_list_reads rb ra c2 c1 (by omega) ⟨.bl _, H, I, rfl, q⟩
  · obtain ⟨bs, rb⟩ := reads_of I _ y u (by simpa [PyData.canLay0] using c2) r2 ry
    exact SeqAt.notIn_tuple_reads rb ra c2 c1 (by omega) ⟨.bl _, H, I, rfl, q⟩
theorem inOk_iff {x : PyData} {ys : List PyData} (h : inOk x ys = true) : x.canLay0 = true ∧ PyData.canLayAll0 ys = true ∧ min (PyData.depthAll ys) x.depth ≤ 60 := by
  simp only [inOk, Bool.and_eq_true, decide_eq_true_eq] at h
  exact ⟨h.1.1, h.1.2, h.2⟩
theorem od_in : OpD (rInD false) dIn true := by
  intro H₀ Hs H l m x y d v u Q s0 s1 e rx ry q
  unfold dIn at e
  cases hb : dInB x y with
  | none => rw [hb] at e; cases e
  | some k =>
    rw [hb] at e
    cases e
    unfold dInB at hb
    split at hb
    · split at hb
      · rename_i hk
        cases hb
        obtain ⟨c1, c2, hd⟩ := inOk_iff hk
        exact ⟨_, _, _, _, rx, .inr ry, c1, c2, hd, q _ H (Same.refl H) rfl⟩
      · cases hb
    · split at hb
      · rename_i hk
        cases hb
        obtain ⟨c1, c2, hd⟩ := inOk_iff hk
        exact ⟨_, _, _, _, rx, .inl ry, c1, c2, hd, q _ H (Same.refl H) rfl⟩
      · cases hb
    · cases hb
theorem od_notIn : OpD (rInD true) dNotIn true := by
  intro H₀ Hs H l m x y d v u Q s0 s1 e rx ry q
  unfold dNotIn at e
  cases hb : dInB x y with
  | none => rw [hb] at e; cases e
  | some k =>
    rw [hb] at e
    cases e
    unfold dInB at hb
    split at hb
    · split at hb
      · rename_i hk
        cases hb
        obtain ⟨c1, c2, hd⟩ := inOk_iff hk
        exact ⟨_, _, _, _, rx, .inr ry, c1, c2, hd, q _ H (Same.refl H) rfl⟩
      · cases hb
    · split at hb
      · rename_i hk
        cases hb
        obtain ⟨c1, c2, hd⟩ := inOk_iff hk
        exact ⟨_, _, _, _, rx, .inl ry, c1, c2, hd, q _ H (Same.refl H) rfl⟩
      · cases hb
    · cases hb
/-! ### < and its like, is None -/
theorem od_bool {g : Int → Int → Bool} {f : PyData → PyData → Option PyData} (hf : ∀ x y d, f x y = some d → ∃ i j, x = .int i ∧ y = .int j ∧ d = .bool (g i j)) : OpD (rI0 fun i j => .bl (g i j)) f true := by
  intro H₀ Hs H l m x y d v u Q s0 s1 e rx ry q
  obtain ⟨i, j, rfl, rfl, rfl⟩ := hf x y d e
  cases (show v = .int i from rx); cases (show u = .int j from ry)
  exact ⟨i, j, rfl, rfl, q _ H (Same.refl H) rfl⟩
theorem od_lt : OpD (rI0 fun i j => .bl (decide (i < j))) dLt true := od_bool fun x y d e => by unfold dLt at e; split at e <;> first | (cases e; exact ⟨_, _, rfl, rfl, rfl⟩) | cases e
theorem od_gt : OpD (rI0 fun i j => .bl (decide (j < i))) dGt true := od_bool fun x y d e => by unfold dGt at e; split at e <;> first | (cases e; exact ⟨_, _, rfl, rfl, rfl⟩) | cases e
theorem rep_none {P : PP} {H : Hp} : ∀ {x : PyData} {v : V}, Rep P H x v → decide (v = .non) = isNone x
  | .none, _, h => by cases (show _ = _ from h); rfl
  | .bool _, _, h => by cases (show _ = _ from h); rfl
  | .int _, _, h => by cases (show _ = _ from h); rfl
  | .str _, _, h => by cases (show _ = _ from h); rfl
  | .tuple _, _, ⟨_, _, e, _⟩ => by subst e; rfl
  | .list _, _, ⟨_, _, e, _⟩ => by subst e; rfl
  | .dict _, _, ⟨_, _, e⟩ => by subst e; rfl
theorem isNone_eq {y : PyData} (h : isNone y = true) : y = .none := by cases y <;> first | rfl | cases h
theorem od_isN : OpD (fun x y H Q => y = .non ∧ Q (.bl (decide (x = .non))) H) dIsN true := by
  intro H₀ Hs H l m x y d v u Q s0 s1 e rx ry q
  unfold dIsN at e
  split at e
  · rename_i hn
    cases isNone_eq hn
    cases e
    exact ⟨ry, q _ H (Same.refl H) (by rw [rep_none rx]; rfl)⟩
  · cases e
theorem t_cmp {op : CmpOp} {r : R2} {f : PyData → PyData → Option PyData} {fr : Bool} (ho : OpR X (compareOp op) r) (hd : OpD r f fr) (ha : PE X a (tF XO fa)) (hb : PE X b (tF XO fb)) (hm : behindInMarks op b = false) : PT X (.Compare a [op] [b] pos) (tTest (tF XO (e2 f fr fa fb))) :=
  PT.imp (pt_cmpR ho ha hb hm) fun _ _ _ h => e2_read hd h
theorem x_Eq (C : BC X) (ha : PE X a (tF XO fa)) (hb : PE X b (tF XO fb)) : PE X (.Compare a [.Eq] [b] pos) (tF XO (eEq fa fb)) := x_cmp (op_eq.or (op_eqD C.hu)) od_eq ha hb (nomark _)
theorem u_Eq (C : BC X) (ha : PE X a (tF XO fa)) (hb : PE X b (tF XO fb)) : PT X (.Compare a [.Eq] [b] pos) (tTest (tF XO (eEq fa fb))) := t_cmp (op_eq.or (op_eqD C.hu)) od_eq ha hb (nomark _)
theorem u_Ne (C : BC X) (ha : PE X a (tF XO fa)) (hb : PE X b (tF XO fb)) : PT X (.Compare a [.NotEq] [b] pos) (tTest (tF XO (eNe fa fb))) := t_cmp (op_ne.or (op_neD C.hu)) od_ne ha hb (nomark _)
theorem u_In (C : BC X) (ha : PE X a (tF XO fa)) (hb : PE X b (tF XO fb)) (hm : behindInMarks .In b = false := by rfl) : PT X (.Compare a [.In] [b] pos) (tTest (tF XO (eIn fa fb))) := t_cmp (op_inD C.hu) od_in ha hb hm
theorem u_NotIn (C : BC X) (ha : PE X a (tF XO fa)) (hb : PE X b (tF XO fb)) (hm : behindInMarks .NotIn b = false := by rfl) : PT X (.Compare a [.NotIn] [b] pos) (tTest (tF XO (eNotIn fa fb))) := t_cmp (op_notInD C.hu) od_notIn ha hb hm
theorem u_Lt (C : BC X) (ha : PE X a (tF XO fa)) (hb : PE X b (tF XO fb)) : PT X (.Compare a [.Lt] [b] pos) (tTest (tF XO (eLt fa fb))) := t_cmp op_lt od_lt ha hb (nomark _)
theorem u_Gt (C : BC X) (ha : PE X a (tF XO fa)) (hb : PE X b (tF XO fb)) : PT X (.Compare a [.Gt] [b] pos) (tTest (tF XO (eGt fa fb))) := t_cmp op_gt od_gt ha hb (nomark _)
theorem u_IsN (C : BC X) (ha : PE X a (tF XO fa)) (hb : PE X b (tF XO fb)) : PT X (.Compare a [.Is] [b] pos) (tTest (tF XO (eIsN fa fb))) := t_cmp op_isN od_isN ha hb (nomark _)
/-! ### a chain of two -/
/-- an operation, with its reading on data -/
structure CmpD (X : Cx) (op : CmpOp) (f : PyData → PyData → Option PyData) : Prop where
  ex : ∃ r, OpR X (compareOp op) r ∧ OpD r f true
theorem x_one {op : BoolOp} (ha : PE X a (tF XO fa)) : PE X (.BoolOp op [a] pos) (tF XO fa) := pe_one ha
theorem x_and {rest : List Expr} (ha : PE X a (tF XO fa)) (hb : PE X (.BoolOp .And (b :: rest) pos) (tF XO fb)) : PE X (.BoolOp .And (a :: b :: rest) pos) (tF XO (eAnd fa fb)) :=
  PE.imp (pe_and ha hb) fun σ H Q ⟨H₀, Hs, ρ, r, g, e, kk⟩ => tF_bind g e kk fun l x v H1 s1 g1 r1 e1 k1 => by
    split at e1
    · exact ⟨true, r1, L2.iteT (⟨H₀, Hs, ρ, r, g1, e1, k1⟩)⟩
    · exact ⟨false, r1, L2.iteF (k1.give e1 (Same.refl _) rfl)⟩
    · cases e1
theorem x_or {rest : List Expr} (ha : PE X a (tF XO fa)) (hb : PE X (.BoolOp .Or (b :: rest) pos) (tF XO fb)) : PE X (.BoolOp .Or (a :: b :: rest) pos) (tF XO (eOr fa fb)) :=
  PE.imp (pe_or ha hb) fun σ H Q ⟨H₀, Hs, ρ, r, g, e, kk⟩ => tF_bind g e kk fun l x v H1 s1 g1 r1 e1 k1 => by
    split at e1
    · exact ⟨true, r1, L2.iteT (k1.give e1 (Same.refl _) rfl)⟩
    · exact ⟨false, r1, L2.iteF (⟨H₀, Hs, ρ, r, g1, e1, k1⟩)⟩
    · cases e1
theorem x_not (ha : PE X a (tF XO fa)) : PE X (.UnaryOp .Not a pos) (tF XO (eNot fa)) :=
  PE.imp (pe_not ha) fun σ H Q ⟨H₀, Hs, ρ, r, g, e, kk⟩ => tF_bind g e kk fun l x v H1 s1 g1 r1 e1 k1 => by
    split at e1
    · exact ⟨_, r1, k1.give e1 (Same.refl _) rfl⟩
    · cases e1
theorem x_ifx {cc : Expr} (hc : PT X cc (tTest (tF XO fc))) (ha : PE X a (tF XO fa)) (hb : PE X b (tF XO fb)) : PE X (.IfExp cc a b pos) (tF XO (eIf fc fa fb)) :=
  PE.imp (pe_ifExp hc ha hb) fun σ H Q ⟨H₀, Hs, ρ, r, g, e, kk⟩ => tF_bind g e kk fun l x v H1 s1 g1 r1 e1 k1 => by
    split at e1
    · exact ⟨true, r1, L2.iteT (⟨H₀, Hs, ρ, r, g1, e1, k1⟩)⟩
    · exact ⟨false, r1, L2.iteF (⟨H₀, Hs, ρ, r, g1, e1, k1⟩)⟩
    · cases e1
/-! ### tests -/
theorem u_val (ha : PE X a (tF XO fa)) (he : ∀ whole, isTrue a X.env whole = (do let v ← whole; standAt a.pos; holding [v] (truthy v)) := by intro _; rfl) : PT X a (tTest (tF XO fa)) := pt_val ha he
theorem u_not (ha : PT X a (tTest (tF XO fa))) : PT X (.UnaryOp .Not a pos) (tTest (tF XO (eNot fa))) :=
  PT.imp (pt_not ha) fun σ H Q ⟨H₀, Hs, ρ, r, g, e, kk⟩ => tF_bind g e kk fun l x v H1 s1 g1 r1 e1 k1 => by
    split at e1
    · obtain ⟨z, hz, q⟩ := k1.give e1 (Same.refl _) (v := .bl _) rfl
      cases hz
      exact ⟨_, r1, q⟩
    · cases e1
theorem u_oneAnd (ha : PT X a (tTest (tF XO fa))) : PW X (.BoolOp .And [a] pos) (tTest (tF XO fa)) := pw_and1 ha
theorem u_oneOr (ha : PT X a (tTest (tF XO fa))) : PW X (.BoolOp .Or [a] pos) (tTest (tF XO fa)) := pw_or1 ha
theorem PW.imp {e : Expr} {t t' : TT} (h : PW X e t) (f : ∀ σ H Q, t' σ H Q → t σ H Q) : PW X e t' := fun whole pins s σ H Q I q => h whole pins s σ H Q I (f σ H Q q)
theorem u_and {rest : List Expr} (ha : PT X a (tTest (tF XO fa))) (hb : PW X (.BoolOp .And (b :: rest) pos) (tTest (tF XO fb))) : PW X (.BoolOp .And (a :: b :: rest) pos) (tTest (tF XO (eAnd fa fb))) :=
  PW.imp (pw_and ha hb) fun σ H Q ⟨H₀, Hs, ρ, r, g, e, kk⟩ => tF_bind g e kk fun l x v H1 s1 g1 r1 e1 k1 => by
    split at e1
    · exact ⟨true, r1, L2.iteT (⟨H₀, Hs, ρ, r, g1, e1, k1⟩)⟩
    · obtain ⟨z, hz, q⟩ := k1.give e1 (Same.refl _) (v := .bl _) rfl
      cases hz
      exact ⟨false, r1, L2.iteF (q)⟩
    · cases e1
theorem u_or {rest : List Expr} (ha : PT X a (tTest (tF XO fa))) (hb : PW X (.BoolOp .Or (b :: rest) pos) (tTest (tF XO fb))) : PW X (.BoolOp .Or (a :: b :: rest) pos) (tTest (tF XO (eOr fa fb))) :=
  PW.imp (pw_or ha hb) fun σ H Q ⟨H₀, Hs, ρ, r, g, e, kk⟩ => tF_bind g e kk fun l x v H1 s1 g1 r1 e1 k1 => by
    split at e1
    · obtain ⟨z, hz, q⟩ := k1.give e1 (Same.refl _) (v := .bl _) rfl
      cases hz
      exact ⟨true, r1, L2.iteT (q)⟩
    · exact ⟨false, r1, L2.iteF (⟨H₀, Hs, ρ, r, g1, e1, k1⟩)⟩
    · cases e1
end
end KT
set_option Elab.async false
set_option linter.all false
set_option maxRecDepth 100000
namespace KT
open PySem PySem.Spec PyProof.Rows L2

/-- an argument without a star -/
def notStar : Expr → Bool
  | .Starred _ _ => false
  | _ => true
theorem star_cons {e : Expr} {es : List Expr} {env : Env} (h : notStar e = true) : starEach (e :: es) env = (false, eval e env) :: starEach es env := by
  cases e <;> first | cases h; done | (rw [starEach]; intro _ _ z; cases z)
theorem star_any {pos : Pos} {env : Env} : ∀ {es : List Expr}, es.all notStar = true → (backTo pos (starEach es env)).any (·.1) = false
  | [], _ => by simp [starEach, backTo]
  | e :: es, h => by
    rw [List.all_cons, Bool.and_eq_true] at h
    rw [star_cons h.1]
    show (false || (backTo pos (starEach es env)).any (·.1)) = false
    rw [star_any h.2]
    rfl
section
variable {X : Cx} {XO : XOT} {a b c e : Expr} {es : List Expr} {fa fb fc f : FE} {fs : List FE} {pos : Pos}

/-! ### rows of arguments -/
def KI (XO : XOT) (H₀ Hs : Hp) (σ : L2.St) (H : Hp) (Q : List V → Hp → Prop) (r : RI) : Prop :=
  (∀ l ds vs H', r = .ok l ds → Same H H' → Reps (PL H₀ Hs l) H' ds vs → Q vs H') ∧ ∀ c H', r = .exc c → Same H H' → XO.f c σ H'
theorem KI.same {H₀ Hs : Hp} {σ : L2.St} {H H' : Hp} {Q : List V → Hp → Prop} {r : RI} (k : KI XO H₀ Hs σ H Q r) (s : Same H H') : KI XO H₀ Hs σ H' Q r :=
  ⟨fun l d v H2 e t => k.1 l d v H2 e (s.trans t), fun c H2 e t => k.2 c H2 e (s.trans t)⟩
def tAs (XO : XOT) (fs : List FE) : TA := fun σ H Q => ∃ H₀ Hs ρ r, G XO.cv H₀ Hs ρ σ H ∧ eArgs fs ρ = some r ∧ KI XO H₀ Hs σ H Q r
theorem PA.imp {t t' : TA} (h : PA X es t) (g : ∀ σ H Q, t' σ H Q → t σ H Q) : PA X es t' := fun pos pins s σ H Q I q => h pos pins s σ H Q I (g σ H Q q)
theorem a_nil : PA X [] (tAs XO []) := PA.imp pa_nil fun σ H Q ⟨H₀, Hs, ρ, r, g, e, k⟩ => by
  cases e
  exact k.1 2 [] [] H rfl (Same.refl H) rfl
theorem Rep.low {H₀ Hs H : Hp} (s : Same H₀ Hs) {l m : Nat} (h : l ≤ m) {d : PyData} {v : V} (r : Rep (PL H₀ Hs m) H d v) : Rep (PL H₀ Hs l) H d v := r.imp fun _ _ p => PL.le s h p
theorem Reps.low {H₀ Hs H : Hp} (s : Same H₀ Hs) {l m : Nat} (h : l ≤ m) {d : List PyData} {v : List V} (r : Reps (PL H₀ Hs m) H d v) : Reps (PL H₀ Hs l) H d v := r.imp fun _ _ p => PL.le s h p
theorem a_cons (ha : PE X e (tF XO f)) (hr : PA X es (tAs XO fs)) (hs : starEach (e :: es) X.env = (false, eval e X.env) :: starEach es X.env := by exact star_cons rfl) : PA X (e :: es) (tAs XO (f :: fs)) :=
  PA.imp (pa_cons ha hr hs) fun σ H Q ⟨H₀, Hs, ρ, r, g, e, k⟩ => by
    unfold eArgs at e
    cases hf : f ρ with
    | none => rw [hf] at e; cases e
    | some x =>
      rw [hf] at e
      cases x with
      | exc c =>
        cases e
        exact ⟨H₀, Hs, ρ, .exc c, g, hf, ⟨fun l d v H' e => (nomatch e), fun c' H' e' s => k.2 c' H' (by cases e'; rfl) s⟩⟩
      | ok l d =>
        refine ⟨H₀, Hs, ρ, .ok l d, g, hf, ⟨fun l' d' v H1 e' s1 r1 => ?_, fun c H' e => (nomatch e)⟩⟩
        cases e'
        dsimp only at e
        cases ht : eArgs fs ρ with
        | none => rw [ht] at e; cases e
        | some y =>
          rw [ht] at e
          cases y with
          | exc c =>
            cases e
            exact ⟨H₀, Hs, ρ, .exc c, g.same s1, ht, ⟨fun l d v H' e => (nomatch e), fun c' H' e' s => k.2 c' H' (by cases e'; rfl) (s1.trans s)⟩⟩
          | ok m ds =>
            cases e
            refine ⟨H₀, Hs, ρ, .ok m ds, g.same s1, ht, ⟨fun m' ds' vs H2 e' s2 r2 => ?_, fun c H' e => (nomatch e)⟩⟩
            cases e'
            exact k.1 _ _ (v :: vs) H2 rfl (s1.trans s2) ⟨v, vs, rfl, (r1.same s2).low g.s0 (Nat.min_le_left _ _), r2.low g.s0 (Nat.min_le_right _ _)⟩
theorem eArgs_len : ∀ {fs : List FE} {ρ : Rho} {l : Nat} {ds : List PyData}, eArgs fs ρ = some (.ok l ds) → ds.length = fs.length
  | [], _, _, _, e => by cases e; rfl
  | f :: fs, ρ, l, ds, e => by
    unfold eArgs at e
    cases hf : f ρ with
    | none => rw [hf] at e; cases e
    | some x =>
      rw [hf] at e
      cases x with
      | exc c => cases e
      | ok l d =>
        dsimp only at e
        cases ht : eArgs fs ρ with
        | none => rw [ht] at e; cases e
        | some y =>
          rw [ht] at e
          cases y with
          | exc c => cases e
          | ok m ds' => cases e; simp [eArgs_len ht]
theorem tAs_bind {H₀ Hs : Hp} {ρ : Rho} {σ : L2.St} {H : Hp} {Q : VK} {Q' : List V → Hp → Prop} {k : Nat → List PyData → Option RE} {r : RE} (g : G XO.cv H₀ Hs ρ σ H) (e : bindI (eArgs fs ρ) k = some r) (kk : KK XO H₀ Hs σ H Q r)
    (cont : ∀ l ds vs H1, Same H H1 → G XO.cv H₀ Hs ρ σ H1 → Reps (PL H₀ Hs l) H1 ds vs → ds.length = fs.length → k l ds = some r → KK XO H₀ Hs σ H1 Q r → Q' vs H1) : tAs XO fs σ H Q' := by
  cases h : eArgs fs ρ with
  | none => rw [h] at e; cases e
  | some x =>
    rw [h] at e
    cases x with
    | exc c =>
      cases (Option.some.inj e)
      exact ⟨H₀, Hs, ρ, .exc c, g, h, ⟨fun l d v H' e => (nomatch e), fun c' H' e' s => kk.2 c' H' (by cases e'; rfl) s⟩⟩
    | ok l ds =>
      refine ⟨H₀, Hs, ρ, .ok l ds, g, h, ⟨fun l' d' v H' e' s rp => ?_, fun c H' e => (nomatch e)⟩⟩
      cases e'
      exact cont l ds v H' s (g.same s) rp (eArgs_len h) e (kk.same s)
/-! ### displays -/
theorem x_tup {x1} (h : PA X es (tAs XO fs)) (hl : Nat.ble fs.length 1000 = true := by rfl) : PE X (.Tuple es x1 pos) (tF XO (eTup fs)) :=
  PE.imp (pe_tup h) fun σ H Q ⟨H₀, Hs, ρ, r, g, e, kk⟩ => tAs_bind g e kk fun l ds vs H1 s1 g1 r1 hn e1 k1 => by
    have hz : vs.length ≤ sizeLine := by
      rw [r1.length, hn]
      exact Nat.le_trans (Nat.le_of_ble_eq_true hl) (by decide)
    exact ⟨hz, fun p hp => k1.give e1 (same_new hp _) ⟨p, vs, rfl, (.inl upd_same), r1.same (same_new hp _)⟩⟩
theorem x_lst (h : PA X es (tAs XO fs)) (hl : Nat.ble fs.length 1000 = true := by rfl) : PE X (.List es pos) (tF XO (eLst fs)) :=
  PE.imp (pe_lst h) fun σ H Q ⟨H₀, Hs, ρ, r, g, e, kk⟩ => tAs_bind g e kk fun l ds vs H1 s1 g1 r1 hn e1 k1 => by
    have hz : vs.length ≤ sizeLine := by
      rw [r1.length, hn]
      exact Nat.le_trans (Nat.le_of_ble_eq_true hl) (by decide)
    refine ⟨hz, fun p hp => ?_⟩
    split at e1
    · rename_i f1
      exact k1.give e1 (same_new hp _) ⟨p, vs, rfl, .inl ⟨⟨rfl, g1.s1.free hp⟩, upd_same⟩, (r1.nl f1).same (same_new hp _)⟩
    · cases e1
/-! ### a[b], a[b:c] -/
theorem atP_eq {α : Type} (xs : List α) (i : Int) : atP xs i = atI xs i := rfl
theorem Reps.atI {P : PP} {H : Hp} {ds : List PyData} {vs : List V} {i : Int} {d : PyData} (r : Reps P H ds vs) (h : atP ds i = some d) : ∃ v, L2.atI vs i = some v ∧ Rep P H d v := by
  rw [atP_eq] at h
  unfold L2.atI at h ⊢
  rw [r.length]
  cases q : ixN ds.length i with
  | none => rw [q] at h; cases h
  | some j =>
    rw [q] at h
    exact r.get h
theorem od_ix {K : PySem.W.Frag} : OpD (rIx K) dIx false := by
  intro H₀ Hs H l m x y d v u Q s0 s1 e rx ry q
  unfold dIx at e
  split at e
  · rename_i xs i
    obtain ⟨pa, vs, rfl, ha, ra⟩ := rx
    cases (show u = .int i from ry)
    obtain ⟨z, hz, rz⟩ := ra.atI e
    exact .inr (.inl ⟨pa, vs, i, z, rfl, rfl, .inl ha, hz, q z H (Same.refl H) (rz.low s0 (Nat.min_le_left _ _))⟩)
  · rename_i xs i
    obtain ⟨pa, vs, rfl, ha, ra⟩ := rx
    cases (show u = .int i from ry)
    obtain ⟨z, hz, rz⟩ := ra.atI e
    exact .inl ⟨pa, vs, i, z, rfl, rfl, .inl ha.rd, hz, q z H (Same.refl H) (rz.low s0 (Nat.min_le_left _ _))⟩
  · rename_i z i
    split at e
    · rename_i hz
      cases (show v = .str z from rx)
      cases (show u = .int i from ry)
      cases hc : atP z.cps.toList i with
      | none => rw [hc] at e; cases e
      | some c =>
        rw [hc] at e
        cases e
        exact .inr (.inr ⟨z, i, c, rfl, rfl, le_big hz, hc, q _ H (Same.refl H) rfl⟩)
    · cases e
  · cases e
theorem x_at (ha : PE X a (tF XO fa)) (hb : PE X b (tF XO fb)) (hs : PlainIx b := by exact fun _ _ => rfl) : PE X (.Subscript a b pos) (tF XO (eIx fa fb)) := x_ix ix_seq od_ix ha hb hs
/-- the part of a slice -/
def tO (XO : XOT) (f : FO) : TO := fun σ H Q => ∃ H₀ Hs ρ r, G XO.cv H₀ Hs ρ σ H ∧ f ρ = some r ∧ (∀ i H', r = .ok i → Same H H' → Q i H') ∧ ∀ c H', r = .exc c → Same H H' → XO.f c σ H'
theorem PO.imp {o : Option Expr} {t t' : TO} (h : PO X o t) (g : ∀ σ H Q, t' σ H Q → t σ H Q) : PO X o t' := fun pins s σ H Q I q => h pins s σ H Q I (g σ H Q q)
theorem o_none : PO X none (tO XO oNone) := PO.imp po_none fun σ H Q ⟨H₀, Hs, ρ, r, g, e, k, _⟩ => by
  cases e
  exact k none H rfl (Same.refl H)
theorem o_some (h : PE X a (tF XO fa)) : PO X (some a) (tO XO (oSome fa)) := PO.imp (po_some h) fun σ H Q ⟨H₀, Hs, ρ, r, g, e, k, kx⟩ => by
  unfold oSome at e
  split at e
  · rename_i l i hf
    cases e
    refine ⟨H₀, Hs, ρ, _, g, hf, ⟨fun l' d' v H' e' s rp => ?_, fun c H' e => (nomatch e)⟩⟩
    cases e'
    exact ⟨i, rp, k _ H' rfl s⟩
  · rename_i c hf
    cases e
    exact ⟨H₀, Hs, ρ, _, g, hf, ⟨fun l d v H' e => (nomatch e), fun c' H' e' s => kx c' H' (by cases e'; rfl) s⟩⟩
  · cases e
theorem sxP_eq (n d : Nat) (o : Option Int) : sxP n d o = HT.sIx n d o := by
  cases o with
  | none => rfl
  | some v =>
    have h := HT.clip_eq v n d
    show (if v < 0 then (v + n).toNat else min v.toNat n) = HT.sIx n d (some v)
    by_cases hv : v < 0
    · rw [if_pos hv] at h ⊢
      omega
    · rw [if_neg hv] at h ⊢
      omega
theorem cut_rep {P : PP} {H : Hp} {ds : List PyData} {vs : List V} (r : Reps P H ds vs) (lo hi : Option Int) : Reps P H (cutP ds lo hi) (cutV vs lo hi) := by
  unfold cutP cutV
  rw [sxP_eq, sxP_eq, r.length]
  exact (r.drop _).take _
/-- t[lo:hi], the whole of it: t itself -/
theorem getItem_tuple_all {prog : Program} {w : World} {A : Around} {E : Value → Shared → Prop} {s : Shared} {t sl : Addr} {items : Array Value} {vl vu : Value} {lo hi : Option Int} {Q : Value → Shared → Prop} (ht : IsTup s.heap t items) (hs : s.heap.IsSliceOf sl vl vu .none) (pl : IsPart vl lo) (pu : IsPart vu hi)
    (h1 : HT.sIx items.size 0 lo = 0) (h2 : HT.sIx items.size items.size hi = items.size) (h : Q (.ref t) s) : wpAny (model prog w) A (getItem (.ref t) (.ref sl)) Q E s := by
  obtain ⟨os, hos, hcs, hds⟩ := id hs
  have hTs : s.TypeIs (.ref sl) "slice" := ⟨os, hos, hcs⟩
  obtain ⟨ot, hot, hct, nt, hdt⟩ := id ht
  unfold getItem
  try with_reducible refine wpAny_holding ?_
  first | refine wpAny_bind (wpAny_pure ?_) | skip
  refine wpAny_bind (wpAny_sequenceKey ht.typeIs (by decide) ?_)
  refine wpAny_bind (wpAny_callSpecial?_slot (name := Str.ofString "__getitem__") ht.typeIs PyProof.Rows.slot_tuple_getitem
    (wpAny_call_entry PyProof.Rows.slot_tuple_getitem ht.typeIs entry_tuple_getitem ?_ (args_tuple_getitem _ _)))
  show wpAny _ _ (Builtin.Tuple.tupleItemsOf (.ref t) >>= _) _ _ s
  refine wpAny_bind (tupleItemsOf_ ht ?_)
  refine wpAny_bind (wpAny_typeOf hTs ?_)
  rw [if_pos (by decide)]
  refine wpAny_bind (HT.sliceApplied_gen hs pl pu ?_)
  rw [h1, h2]
  show wpAny _ _ (if (((0 : Nat) : Int) == 0 && (1 : Int) == 1 && (items.size - 0) == items.size) = true then (Builtin.Tuple.tupleIsExact (.ref t) >>= _) else _) _ _ s
  rw [if_pos (by simp)]
  refine wpAny_bind ?_
  unfold Builtin.Tuple.tupleIsExact
  refine wpAny_bind (wpAny_typeOf ht.typeIs (wpAny_pure ?_))
  rw [if_pos (by decide)]
  exact wpAny_bind (wpAny_rule (wpAny_pure ⟨_, rfl, wpAny_pure h⟩))
def rSlA (K : PySem.W.Frag) : V → Option Int → Option Int → Hp → VK → Prop := fun x lo hi H Q => ∃ a xs, x = .ref a ∧ SqT K H a xs ∧ HT.sIx xs.length 0 lo = 0 ∧ HT.sIx xs.length xs.length hi = xs.length ∧ Q (.ref a) H
theorem sl_all : SlR X (rSlA X.K) := by
  intro pins s σ H x v vl vu lo hi sl Q I rx hs pl pu h
  obtain ⟨a, xs, rfl, hx, h1, h2, q⟩ := h
  cases rx
  obtain ⟨its, r, ht, hz⟩ := I.tuple hx
  have hlen : its.toArray.size = xs.length := by rw [List.size_toArray]; exact r.length.symm
  exact ⟨"tuple", _, PyProof.Rows.slot_tuple_getitem.lookup, ht.typeIs, getItem_tuple_all ht hs pl pu (by rw [hlen]; exact h1) (by rw [hlen]; exact h2) ⟨.ref a, H, I, rfl, q⟩⟩
theorem x_sl {lo hi : Option Expr} {flo fhi : FO} {p2 : Pos} (ha : PE X a (tF XO fa)) (hl : PO X lo (tO XO flo)) (hh : PO X hi (tO XO fhi)) : PE X (.Subscript a (.Slice lo hi none p2) pos) (tF XO (eSl fa flo fhi)) :=
  PE.imp (pe_slice (sl_all.or (sl_tup.or sl_list)) ha hl hh) fun σ H Q ⟨H₀, Hs, ρ, r, g, e, kk⟩ => tF_bind g e kk fun l x v H1 s1 g1 r1 e1 k1 => by
    split at e1
    · rename_i lo' hlo
      refine ⟨H₀, Hs, ρ, _, g1, hlo, fun i H2 ei s2 => ?_, fun c H' e => (nomatch e)⟩
      cases ei
      split at e1
      · rename_i hi' hhi
        refine ⟨H₀, Hs, ρ, _, g1.same s2, hhi, fun j H3 ej s3 => ?_, fun c H' e => (nomatch e)⟩
        cases ej
        have r3 := r1.same (s2.trans s3)
        have k3 := k1.same (s2.trans s3)
        have g3 := g1.same (s2.trans s3)
        cases hd : dSl lo' hi' x with
        | none => rw [hd] at e1; cases e1
        | some d =>
          rw [hd] at e1
          unfold dSl at hd
          split at hd
          · split at hd
            · rename_i f1
              cases hd
              obtain ⟨pa, vs, rfl, hp, ra⟩ := r3
              by_cases hw : HT.sIx vs.length 0 lo' = 0 ∧ HT.sIx vs.length vs.length hi' = vs.length
              · refine .inl ⟨pa, vs, rfl, .inl hp, hw.1, hw.2, k3.give e1 (Same.refl _) ⟨pa, vs, rfl, hp, ?_⟩⟩
                have hc := cut_rep (ra.nl (P' := PL H₀ Hs 2) f1) lo' hi'
                unfold cutV at hc
                rw [hw.1, hw.2, Nat.sub_zero, List.drop_zero, List.take_length] at hc
                exact hc
              · refine .inr (.inl ⟨pa, vs, rfl, .inl hp, hw, fun p hpn => ?_⟩)
                exact k3.give e1 (same_new hpn _) ⟨p, _, rfl, (.inl upd_same), (cut_rep (ra.nl f1) _ _).same (same_new hpn _)⟩
            · cases hd
          · split at hd
            · rename_i f1
              cases hd
              obtain ⟨pa, vs, rfl, hp, ra⟩ := r3
              refine .inr (.inr ⟨pa, vs, rfl, .inl hp.rd, fun p hpn => ?_⟩)
              exact k3.give e1 (same_new hpn _) ⟨p, _, rfl, .inl ⟨⟨rfl, g3.s1.free hpn⟩, upd_same⟩, (cut_rep (ra.nl f1) _ _).same (same_new hpn _)⟩
            · cases hd
          · cases hd
      · rename_i c hhi
        cases e1
        exact ⟨H₀, Hs, ρ, _, g1.same s2, hhi, fun j H3 ej s3 => (nomatch ej), fun c' H' e' s => k1.2 c' H' (by cases e'; rfl) (s2.trans s)⟩
      · cases e1
    · rename_i c hlo
      cases e1
      exact ⟨H₀, Hs, ρ, _, g1, hlo, fun j H3 ej s3 => (nomatch ej), fun c' H' e' s => k1.2 c' H' (by cases e'; rfl) s⟩
    · cases e1
end
end KT
set_option Elab.async false
set_option linter.all false
set_option maxRecDepth 100000
namespace KT
open PySem PySem.Spec PyProof.Rows L2

/-! ### the state of a body: F, what stays; O, whose own list an address is -/
abbrev Own := Addr → Option Nat
/-- the error classes by number; how many names a body has -/
structure Cfg where
  cv : Nat → Value
  n : Nat
  lend : Addr
/-- what a def may have of its own: a list, a dict of True -/
inductive OwV where
  | l (vs : List V) | k (kvs : List (Key × V)) | n (ks : List PyData)
def OwV.ho : OwV → HO
  | .l vs => .lst vs
  | .k kvs => .dK kvs
  | .n ks => .dN ks
theorem rd_upd {H : Hp} {p a : Addr} {o : HO} {o0 : OwV} {xs : List V} (hp : H p = some o0.ho) (h : Rd H a (.tup xs)) : Rd (upd H p o) a (.tup xs) := by
  have hne : a ≠ p := by
    intro z; subst z
    rcases h with h | ⟨_, h⟩ <;> (rw [hp] at h; cases o0 <;> cases h)
  rcases h with h | ⟨q, h⟩
  · exact .inl (by rw [upd_ne hne]; exact h)
  · exact .inr ⟨q, by rw [upd_ne hne]; exact h⟩
theorem DR.ow {H : Hp} {ks : List PyData} {a : Addr} (h : DR H ks a) : ∃ vs : OwV, H a = some vs.ho := by
  rcases h with ⟨is, e, h⟩ | ⟨n, h⟩
  · exact ⟨.k _, h⟩
  · exact ⟨.n _, h⟩
def SS (cv : Cfg) (H₀ : Hp) (O : Own) (o : Option (Option V)) (i : Nat) (H : Hp) : Slot → Prop
  | .par d => ∃ v, o = some (some v) ∧ Rep (fun _ a => O a = none) H d v
  | .loc d => ∃ v, o = some (some v) ∧ Rep (fun z a => z = false ∧ O a = none ∧ H₀ a = none) H d v
  | .own ds => ∃ p vs, o = some (some (.ref p)) ∧ O p = some i ∧ H p = some (.lst vs) ∧ Reps (fun _ _ => False) H ds vs
  | .own2 ds => ∃ p vs, o = some (some (.ref p)) ∧ O p = some i ∧ H p = some (.lst vs) ∧ Reps (fun z a => z = false ∧ O a = none ∧ H₀ a = none) H ds vs
  | .lent ds => ∃ vs, o = some (some (.ref cv.lend)) ∧ O cv.lend = some i ∧ H cv.lend = some (.lst vs) ∧ Reps (fun _ _ => False) H ds vs
  | .dct ks => ∃ a, o = some (some (.ref a)) ∧ O a = some i ∧ DR H ks a
  | .ex c => ∃ a, o = some (some (.ref a)) ∧ XRep cv.cv H c a
structure SO (cv : Cfg) (H₀ F : Hp) (ρ : Rho) (σ : L2.St) (H : Hp) (O : Own) : Prop where
  fr : ∀ a i, O a = some i → F a = none
  ls : ∀ a i, O a = some i → ∃ vs : OwV, H a = some vs.ho
  sl : ∀ i t, ρ[i]? = some (some t) → SS cv H₀ O σ[i]? i H t
structure SR (cv : Cfg) (H₀ F : Hp) (ρ : Rho) (σ : L2.St) (H : Hp) : Prop where
  s0 : Same H₀ F
  s1 : Same F H
  len : ρ.length = cv.n
  ln : σ.length = cv.n
  ex : ∃ O, SO cv H₀ F ρ σ H O
theorem SS.same {cv : Cfg} {H₀ H H' : Hp} {O : Own} {o : Option (Option V)} {i : Nat} (s : Same H H') : ∀ {t : Slot}, SS cv H₀ O o i H t → SS cv H₀ O o i H' t
  | .par _, ⟨v, e, h⟩ => ⟨v, e, h.same s⟩
  | .loc _, ⟨v, e, h⟩ => ⟨v, e, h.same s⟩
  | .own _, ⟨p, vs, e, q, h, r⟩ => ⟨p, vs, e, q, s _ _ h, r.same s⟩
  | .own2 _, ⟨p, vs, e, q, h, r⟩ => ⟨p, vs, e, q, s _ _ h, r.same s⟩
  | .lent _, ⟨vs, e, q, h, r⟩ => ⟨vs, e, q, s _ _ h, r.same s⟩
  | .dct _, ⟨a, e, q, h⟩ => ⟨a, e, q, h.same s⟩
  | .ex _, ⟨a, e, h⟩ => ⟨a, e, h.same s⟩
theorem SR.same {cv : Cfg} {H₀ F H H' : Hp} {ρ : Rho} {σ : L2.St} (r : SR cv H₀ F ρ σ H) (s : Same H H') : SR cv H₀ F ρ σ H' :=
  ⟨r.s0, r.s1.trans s, r.len, r.ln, let ⟨O, o⟩ := r.ex; ⟨O, o.fr, fun a i e => let ⟨vs, q⟩ := o.ls a i e; ⟨vs, s _ _ q⟩, fun i t e => (o.sl i t e).same s⟩⟩
theorem SR.g {cv : Cfg} {H₀ F H : Hp} {ρ : Rho} {σ : L2.St} (r : SR cv H₀ F ρ σ H) : G cv.cv H₀ H ρ σ H := by
  refine ⟨r.s0.trans r.s1, Same.refl H, fun i t e => ?_⟩
  obtain ⟨O, o⟩ := r.ex
  have h := o.sl i t e
  cases t with
  | par d => obtain ⟨v, e, q⟩ := h; exact ⟨v, e, q.imp fun _ _ _ => trivial⟩
  | loc d => obtain ⟨v, e, q⟩ := h; exact ⟨v, e, q.imp fun _ _ p => ⟨p.1, p.2.2⟩⟩
  | own ds =>
    obtain ⟨p, vs, e, q, h, rs⟩ := h
    exact ⟨.ref p, e, p, vs, rfl, .inl ⟨⟨rfl, r.s0.free (o.fr p i q)⟩, h⟩, rs.imp fun _ _ z => z.elim⟩
  | own2 ds =>
    obtain ⟨p, vs, e, q, h, rs⟩ := h
    exact ⟨.ref p, e, p, vs, rfl, .inl ⟨⟨rfl, r.s0.free (o.fr p i q)⟩, h⟩, rs.imp fun _ _ z => ⟨z.1, z.2.2⟩⟩
  | lent ds =>
    obtain ⟨vs, e, q, h, rs⟩ := h
    exact ⟨.ref cv.lend, e, _, vs, rfl, .inl ⟨⟨rfl, r.s0.free (o.fr _ i q)⟩, h⟩, rs.imp fun _ _ z => z.elim⟩
  | dct ks => obtain ⟨a, e, q, h⟩ := h; exact ⟨a, e, h⟩
  | ex c => exact h
/-- what is wanted behind a statement -/
def KS (cv : Cfg) (XO : XOF) (H₀ F : Hp) (D : Ends) (r : RS) : Prop :=
  match r with
  | .next ρ' => ∀ σ' H', SR cv H₀ F ρ' σ' H' → D.nx σ' H'
  | .ret d => ∀ v H', Same F H' → Rep (fun z a => z = false ∧ H₀ a = none) H' d v → D.rt v H'
  | .exc c ρ' => ∀ σ' H', SR cv H₀ F ρ' σ' H' → XO c σ' H'
  | .brk ρ' => ∀ σ' H', SR cv H₀ F ρ' σ' H' → D.bk σ' H'
  | .cont ρ' => ∀ σ' H', SR cv H₀ F ρ' σ' H' → D.ct σ' H'
  | .retL d ds => ∀ v H', Same F H' → Rep (fun _ a => a ≠ cv.lend) H' d v → (∃ vs, H' cv.lend = some (.lst vs) ∧ Reps (fun _ _ => False) H' ds vs) → D.rt v H'
def tS (cv : Cfg) (XO : XOF) (f : FS) : TS := fun D σ H => ∃ H₀ F ρ r, SR cv H₀ F ρ σ H ∧ f ρ = some r ∧ KS cv XO H₀ F D r
section
variable {X : Cx} {XO : XOF} {cv : Cfg} {e : Expr} {f fa fb : FE} {st : Stmt} {rest sa sb : List Stmt} {a b : FS} {pos : Pos}
theorem PSs.imp {sts : List Stmt} {t t' : TS} (h : PSs X sts t) (g : ∀ D σ H, t' D σ H → t D σ H) : PSs X sts t' := fun pins s σ H D I q => h pins s σ H D I (g D σ H q)
/-- an expression at a statement's start -/
theorem tS_bind {H₀ F : Hp} {ρ : Rho} {σ : L2.St} {H : Hp} {D : Ends} {Q : VK} {k : Nat → PyData → Option RS} {r : RS} (g : SR cv H₀ F ρ σ H) (e : bindS (f ρ) ρ k = some r) (kk : KS cv XO H₀ F D r)
    (cont : ∀ l d v H1, Same H H1 → Rep (PL H₀ H l) H1 d v → k l d = some r → Q v H1) : tF ⟨cv.cv, XO⟩ f σ H Q := by
  cases h : f ρ with
  | none => rw [h] at e; cases e
  | some x =>
    rw [h] at e
    cases x with
    | exc c =>
      cases (Option.some.inj e)
      refine ⟨H₀, H, ρ, .exc c, g.g, h, ⟨fun l d v H' e => (nomatch e), fun c' H' e' s => ?_⟩⟩
      cases e'
      exact kk σ H' (g.same s)
    | ok l d =>
      refine ⟨H₀, H, ρ, .ok l d, g.g, h, ⟨fun l' d' v H' e' s rp => ?_, fun c H' e => (nomatch e)⟩⟩
      cases e'
      exact cont l d v H' s rp e
/-! ### blocks -/
theorem b_nil : PSs X [] (tS cv XO sNext) := PSs.imp pss_nil fun D σ H ⟨H₀, F, ρ, r, g, e, k⟩ => by
  cases e
  exact k σ H g
theorem b_one (h : PS X st (tS cv XO a)) : PSs X [st] (tS cv XO a) := pss_one h
theorem b_cons (h : PS X st (tS cv XO a)) (t : PSs X rest (tS cv XO b)) : PSs X (st :: rest) (tS cv XO (sSeq a b)) := PSs.imp (pss_cons h t) fun D σ H ⟨H₀, F, ρ, r, g, e, k⟩ => by
  unfold sSeq at e
  cases ha : a ρ with
  | none => rw [ha] at e; cases e
  | some x =>
    rw [ha] at e
    cases x with
    | next ρ' => exact ⟨H₀, F, ρ, .next ρ', g, ha, fun σ' H' g' => ⟨H₀, F, ρ', r, g', e, k⟩⟩
    | ret d => cases e; exact ⟨H₀, F, ρ, .ret d, g, ha, k⟩
    | exc c ρ' => cases e; exact ⟨H₀, F, ρ, .exc c ρ', g, ha, k⟩
    | brk ρ' => cases e; exact ⟨H₀, F, ρ, .brk ρ', g, ha, k⟩
    | cont ρ' => cases e; exact ⟨H₀, F, ρ, .cont ρ', g, ha, k⟩
    | retL d ds => cases e; exact ⟨H₀, F, ρ, .retL d ds, g, ha, k⟩
theorem s_ret (h : PE X e (tF ⟨cv.cv, XO⟩ f)) : PS X (.Return (some e) pos) (tS cv XO (sRet f)) :=
  PS.imp (ps_ret h) fun D σ H ⟨H₀, F, ρ, r, g, e, k⟩ => tS_bind g e k fun l d v H1 s1 r1 e1 => by
    split at e1
    · rename_i hc
      cases e1
      refine k v H1 (g.s1.trans s1) ?_
      by_cases hl : lf d = true
      · exact r1.nl hl
      · have h1 : 1 ≤ l := by
          rw [Bool.or_eq_true] at hc
          exact of_decide_eq_true (hc.resolve_left hl)
        exact r1.imp fun z a p => PL.le (g.s0.trans g.s1) h1 p
    · cases e1
theorem s_if {c : Expr} {fc : FE} (hc : PT X c (tTest (tF ⟨cv.cv, XO⟩ fc))) (ha : PSs X sa (tS cv XO a)) (hb : PSs X sb (tS cv XO b)) : PS X (.If c sa sb pos) (tS cv XO (sIf fc a b)) :=
  PS.imp (ps_if hc ha hb) fun D σ H ⟨H₀, F, ρ, r, g, e, k⟩ => tS_bind g e k fun l d v H1 s1 r1 e1 => by
    split at e1
    · exact ⟨true, r1, L2.iteT (⟨H₀, F, ρ, r, g.same s1, e1, k⟩)⟩
    · exact ⟨false, r1, L2.iteF (⟨H₀, F, ρ, r, g.same s1, e1, k⟩)⟩
    · cases e1
/-! ### x = e -/
theorem hp_ne {H : Hp} {a : Addr} {o : HO} (e : H a = some o) : H a ≠ none := by rw [e]; simp
theorem set_get {α : Type} (xs : List α) (i j : Nat) (v : α) (hi : i < xs.length) : (xs.set i v)[j]? = if i = j then some v else xs[j]? := by
  by_cases h : i = j
  · subst h; simp [hi]
  · simp [h]
/-- a slot is set: what it holds is fresh, or without lists -/
theorem SR.set {H₀ F H H1 : Hp} {ρ : Rho} {σ : L2.St} {i l : Nat} {d : PyData} {v : V} {t : Slot} (g : SR cv H₀ F ρ σ H) (hi' : Nat.blt i cv.n = true) (s1 : Same H H1) (r1 : Rep (PL H₀ H l) H1 d v) (ha : asg l d = some t) :
    SR cv H₀ F (ρ.set i (some t)) (σ.set i (some v)) H1 := by
  obtain ⟨O, o⟩ := g.ex
  have o1 : SO cv H₀ F ρ σ H1 O := ⟨o.fr, fun a i e => let ⟨vs, q⟩ := o.ls a i e; ⟨vs, s1 _ _ q⟩, fun i t e => (o.sl i t e).same s1⟩
  have hi : i < σ.length := by rw [g.ln]; exact Nat.ble_eq.mp hi'
  have hρ : i < ρ.length := by rw [g.len]; exact Nat.ble_eq.mp hi'
  -- the others stay, whatever new address is owned
  have keep : ∀ (O' : Own), (∀ a, H a ≠ none → O' a = O a) → ∀ j t', i ≠ j → (ρ.set i (some t))[j]? = some (some t') → SS cv H₀ O' (σ.set i (some v))[j]? j H1 t' := fun O' hO j t' hij e => by
    rw [set_get _ _ _ _ hρ, if_neg hij] at e
    rw [set_get _ _ _ _ hi, if_neg hij]
    have q := o.sl j t' e
    have old : ∀ {P P' : PP}, (∀ z a, H a ≠ none → P z a → P' z a) → ∀ {d : PyData} {v : V}, Rep P H d v → Rep P' H1 d v := fun {P P'} hP {d v} r =>
      Rep.mono (fun a vs e => Rd.same s1 e) (fun a vs r => by
        rcases r with ⟨p, e⟩ | ⟨p, u, e⟩
        · exact .inl ⟨hP _ _ (hp_ne e) p, s1 _ _ e⟩
        · exact .inr ⟨hP _ _ (hp_ne e) p, u, s1 _ _ e⟩) d v r
    cases t' with
    | par d => obtain ⟨w, e, r⟩ := q; exact ⟨w, e, old (fun z a n p => by rw [hO a n]; exact p) r⟩
    | loc d => obtain ⟨w, e, r⟩ := q; exact ⟨w, e, old (fun z a n p => by rw [hO a n]; exact p) r⟩
    | own ds =>
      obtain ⟨p, vs, e, q, h, rs⟩ := q
      exact ⟨p, vs, e, by rw [hO p (hp_ne h)]; exact q, s1 _ _ h, rs.same s1⟩
    | own2 ds =>
      obtain ⟨p, vs, e, q, h, rs⟩ := q
      exact ⟨p, vs, e, by rw [hO p (hp_ne h)]; exact q, s1 _ _ h, Reps.mono (fun a vs e => Rd.same s1 e) (fun a vs r => by
        rcases r with ⟨p, e⟩ | ⟨p, u, e⟩
        · exact .inl ⟨⟨p.1, (hO a (hp_ne e)).trans p.2.1, p.2.2⟩, s1 _ _ e⟩
        · exact .inr ⟨⟨p.1, (hO a (hp_ne e)).trans p.2.1, p.2.2⟩, u, s1 _ _ e⟩) ds _ rs⟩
    | lent ds =>
      obtain ⟨vs, e, q, h, rs⟩ := q
      exact ⟨vs, e, by rw [hO _ (hp_ne h)]; exact q, s1 _ _ h, rs.same s1⟩
    | dct ks => obtain ⟨a, e, q, h⟩ := q; obtain ⟨_, hw⟩ := h.ow; exact ⟨a, e, by rw [hO a (hp_ne hw)]; exact q, h.same s1⟩
    | ex c => obtain ⟨a, e, x⟩ := q; exact ⟨a, e, x.same s1⟩
  have fin : ∀ (O' : Own), (∀ a, H a ≠ none → O' a = O a) → (∀ a i, O' a = some i → F a = none) → (∀ a i, O' a = some i → ∃ vs : OwV, H1 a = some vs.ho) → SS cv H₀ O' (some (some v)) i H1 t → SR cv H₀ F (ρ.set i (some t)) (σ.set i (some v)) H1 := fun O' hO hF hL ht =>
    ⟨g.s0, g.s1.trans s1, by simp [g.len], by simp [g.ln], O', hF, hL, fun j t' e => by
      by_cases hij : i = j
      · subst hij
        rw [set_get _ _ _ _ hρ, if_pos rfl] at e
        cases e
        rw [set_get _ _ _ _ hi, if_pos rfl]
        exact ht
      · exact keep O' hO j t' hij e⟩
  unfold asg at ha
  split at ha
  · rename_i hl
    cases ha
    exact fin O (fun _ _ => rfl) o.fr o1.ls ⟨v, rfl, r1.nl hl⟩
  · split at ha
    · rename_i h2
      have young : ∀ z a, PL H₀ H l z a → z = false ∧ O a = none ∧ H₀ a = none := fun z a p => by
        have p2 : z = false ∧ H a = none := by
          match l, h2, p with
          | l + 2, _, p => exact p
        refine ⟨p2.1, ?_, (g.s0.trans g.s1).free p2.2⟩
        cases q : O a with
        | none => rfl
        | some j => obtain ⟨vs, e⟩ := o.ls a j q; rw [p2.2] at e; cases vs <;> cases e
      split at ha
      · rename_i ds
        split at ha
        · rename_i hf
          cases ha
          obtain ⟨p, vs, rfl, rl, rs⟩ := r1
          rcases rl with ⟨y, e⟩ | ⟨y, u, e⟩
          · have hn : H p = none := by
              match l, h2, y with
              | l + 2, _, y => exact y.2
            refine fin (fun a => if a = p then some i else O a) (fun a n => ?_) (fun a j q => ?_) (fun a j q => ?_) ⟨p, vs, rfl, by simp, e, rs.nl hf⟩
            · rw [if_neg]
              intro z; subst z; exact n hn
            · by_cases z : a = p
              · subst z; exact g.s1.free hn
              · rw [if_neg z] at q; exact o.fr a j q
            · by_cases z : a = p
              · subst z; exact ⟨.l vs, e⟩
              · rw [if_neg z] at q; exact o1.ls a j q
          · exact absurd (young _ _ y).1 (by simp)
        · cases ha
          exact fin O (fun _ _ => rfl) o.fr o1.ls ⟨v, rfl, r1.imp young⟩
      · cases ha
        exact fin O (fun _ _ => rfl) o.fr o1.ls ⟨v, rfl, r1.imp young⟩
    · cases ha
theorem s_set (i : Nat) {x : Str} {pos' : Pos} (hN : X.N.Nodup) (h : PE X e (tF ⟨cv.cv, XO⟩ f)) (hi : X.N[i]? = some x := by rfl) (hx : Loc X.env.scope x := by first | exact Or.inl rfl | exact Or.inr rfl)
    (hs : swapsWith e (some (.Name x pos')) pos.line X.env = pure false := by rfl) (hf : X.fn x = true ∨ X.env.scope.names.lookup x = some .local := by first | exact .inl rfl | exact .inr rfl | assumption)
    (hin : Nat.blt i cv.n = true := by rfl) : PS X (.Assign [.Name x pos'] e pos) (tS cv XO (sSet i f)) := by
  intro pins s σ H D I ⟨H₀, F, ρ, r, g, e', k⟩
  refine ps_set hN hi hx h hs hf pins s σ H D I ?_
  refine tS_bind g e' k fun l d v H1 s1 r1 e1 => ?_
  cases ha : asg l d with
  | none => rw [ha] at e1; cases e1
  | some t =>
    rw [ha] at e1
    cases e1
    exact k _ _ (g.set hin s1 r1 ha)
end
end KT
set_option Elab.async false
set_option linter.all false
set_option maxRecDepth 100000
namespace KT
open PySem PySem.Spec PyProof.Rows L2
section
variable {X : Cx} {XO : XOF} {cv : Cfg} {e : Expr} {f fa fb : FE} {st : Stmt} {rest sa sb : List Stmt} {a b : FS} {pos : Pos}
variable {H₀ F H H1 : Hp} {ρ : Rho} {σ : L2.St}
/-- data that the heap bears without any list -/
theorem Rep.none_lf {P : PP} {d : PyData} {v : V} (r : Rep (fun _ _ => False) H d v) : Rep P H d v := r.imp fun _ _ z => z.elim
/-- a slot is set to what holds no list of others -/
theorem SR.put {i : Nat} {v : V} {t : Slot} (g : SR cv H₀ F ρ σ H) (hi' : Nat.blt i cv.n = true) (ht : ∀ O, SO cv H₀ F ρ σ H O → SS cv H₀ O (some (some v)) i H t) : SR cv H₀ F (ρ.set i (some t)) (σ.set i (some v)) H := by
  obtain ⟨O, o⟩ := g.ex
  have hi : i < σ.length := by rw [g.ln]; exact Nat.ble_eq.mp hi'
  have hρ : i < ρ.length := by rw [g.len]; exact Nat.ble_eq.mp hi'
  refine ⟨g.s0, g.s1, by simp [g.len], by simp [g.ln], O, o.fr, o.ls, fun j t' e => ?_⟩
  by_cases hij : i = j
  · subst hij
    rw [set_get _ _ _ _ hρ, if_pos rfl] at e
    cases e
    rw [set_get _ _ _ _ hi, if_pos rfl]
    exact ht O o
  · rw [set_get _ _ _ _ hρ, if_neg hij] at e
    rw [set_get _ _ _ _ hi, if_neg hij]
    exact o.sl j t' e
theorem SR.putLoc {i : Nat} {v : V} {d : PyData} (g : SR cv H₀ F ρ σ H) (hi : Nat.blt i cv.n = true) (r : Rep (fun _ _ => False) H d v) : SR cv H₀ F (ρ.set i (some (.loc d))) (σ.set i (some v)) H :=
  g.put hi fun O o => ⟨v, rfl, r.none_lf⟩
theorem DR.upd {ks : List PyData} {a p : Addr} {o : HO} (h : DR H ks a) (hne : a ≠ p) : DR (upd H p o) ks a := by
  rcases h with ⟨is, e, h⟩ | ⟨n, h⟩
  · exact .inl ⟨is, e, by rw [upd_ne hne]; exact h⟩
  · exact .inr ⟨n, by rw [upd_ne hne]; exact h⟩
/-- a list of one's own has changed -/
theorem SR.change {i : Nat} {ds ds' : List PyData} {p : Addr} {vs vs' : List V} {O : Own} (g : SR cv H₀ F ρ σ H) (o : SO cv H₀ F ρ σ H O) (hi : ρ[i]? = some (some (.own ds))) (hσ : σ[i]? = some (some (.ref p))) (hO : O p = some i) (hp : H p = some (.lst vs)) (r : Reps (fun _ _ => False) H ds' vs') :
    SR cv H₀ F (ρ.set i (some (.own ds'))) σ (upd H p (.lst vs')) := by
  have hρ : i < ρ.length := (List.getElem?_eq_some_iff.mp hi).1
  have hT : ∀ a xs, Rd H a (.tup xs) → Rd (upd H p (.lst vs')) a (.tup xs) := fun a xs e => rd_upd (o0 := .l vs) hp e
  have hR : ∀ {P : PP}, (∀ z a, P z a → O a = none) → ∀ (d : PyData) (v : V), Rep P H d v → Rep P (upd H p (.lst vs')) d v := fun {P} hP d v r =>
    Rep.mono hT (fun a ws rl => by
      have hne : ∀ z, P z a → a ≠ p := fun z q y => by have := hP z a q; rw [y, hO] at this; cases this
      rcases rl with ⟨q, e⟩ | ⟨q, u, e⟩
      · exact .inl ⟨q, by rw [upd_ne (hne _ q)]; exact e⟩
      · exact .inr ⟨q, u, by rw [upd_ne (hne _ q)]; exact e⟩) d v r
  have hF : ∀ {ds : List PyData} {ws : List V}, Reps (fun _ _ => False) H ds ws → Reps (fun _ _ => False) (upd H p (.lst vs')) ds ws := fun {ds ws} r =>
    Reps.mono hT (fun a ws rl => by rcases rl with ⟨q, _⟩ | ⟨q, _⟩ <;> exact q.elim) ds ws r
  refine ⟨g.s0, fun b u e => ?_, by simp [g.len], g.ln, O, o.fr, fun a j e => ?_, fun j t e => ?_⟩
  · rw [upd_ne]
    · exact g.s1 b u e
    · intro z; subst z; rw [o.fr b i hO] at e; cases e
  · by_cases z : a = p
    · subst z; exact ⟨.l vs', upd_same⟩
    · rw [upd_ne z]; exact o.ls a j e
  · by_cases hij : i = j
    · subst hij
      rw [set_get _ _ _ _ hρ, if_pos rfl] at e
      cases e
      exact ⟨p, vs', hσ, hO, upd_same, hF r⟩
    · rw [set_get _ _ _ _ hρ, if_neg hij] at e
      have q := o.sl j t e
      cases t with
      | par d => obtain ⟨w, e1, rr⟩ := q; exact ⟨w, e1, hR (fun _ _ x => x) d w rr⟩
      | loc d => obtain ⟨w, e1, rr⟩ := q; exact ⟨w, e1, hR (fun _ _ x => x.2.1) d w rr⟩
      | own ds =>
        obtain ⟨q1, ws, e1, hq, hqp, rs⟩ := q
        have hne : q1 ≠ p := fun z => by rw [z, hO] at hq; cases hq; exact hij rfl
        exact ⟨q1, ws, e1, hq, by rw [upd_ne hne]; exact hqp, hF rs⟩
      | own2 ds =>
        obtain ⟨q1, ws, e1, hq, hqp, rs⟩ := q
        have hne : q1 ≠ p := fun z => by rw [z, hO] at hq; cases hq; exact hij rfl
        exact ⟨q1, ws, e1, hq, by rw [upd_ne hne]; exact hqp, Reps.mono hT (fun a ws rl => by
          have hne : ∀ z, (z = false ∧ O a = none ∧ H₀ a = none) → a ≠ p := fun z q y => by have := q.2.1; rw [y, hO] at this; cases this
          rcases rl with ⟨q, e⟩ | ⟨q, u, e⟩
          · exact .inl ⟨q, by rw [upd_ne (hne _ q)]; exact e⟩
          · exact .inr ⟨q, u, by rw [upd_ne (hne _ q)]; exact e⟩) ds ws rs⟩
      | lent ds =>
        obtain ⟨ws, e1, hq, hqp, rs⟩ := q
        have hne : cv.lend ≠ p := fun z => by rw [z, hO] at hq; cases hq; exact hij rfl
        exact ⟨ws, e1, hq, by rw [upd_ne hne]; exact hqp, hF rs⟩
      | dct ks =>
        obtain ⟨q1, e1, hq, hd⟩ := q
        have hne : q1 ≠ p := fun z => by rw [z, hO] at hq; cases hq; exact hij rfl
        exact ⟨q1, e1, hq, hd.upd hne⟩
      | ex c =>
        obtain ⟨w, e1, φ, hx, hφ⟩ := q
        have hne : w ≠ p := fun z => by rw [z, hp] at hx; cases hx
        exact ⟨w, e1, φ, by rw [upd_ne hne]; exact hx, hφ⟩
theorem SR.own {i : Nat} {ds : List PyData} (g : SR cv H₀ F ρ σ H) (hi : ρ[i]? = some (some (.own ds))) : ∃ O p vs, SO cv H₀ F ρ σ H O ∧ σ[i]? = some (some (.ref p)) ∧ O p = some i ∧ H p = some (.lst vs) ∧ Reps (fun _ _ => False) H ds vs := by
  obtain ⟨O, o⟩ := g.ex
  obtain ⟨p, vs, e, q, h, r⟩ := o.sl i _ hi
  exact ⟨O, p, vs, o, e, q, h, r⟩
/-! ### x.append(e) -/
theorem s_append (i : Nat) {x : Str} {xp apos cpos : Pos} (h : PE X e (tF ⟨cv.cv, XO⟩ f)) (hN : X.N[i]? = some x := by rfl) (hv : Vis X.env.scope x := by first | exact Or.inl rfl | exact Or.inr (Or.inl rfl) | exact Or.inr (Or.inr rfl))
    (hd : (x == ("__debug__" : Str)) = false := by decide) (hcd : (x == ("__classdict__" : Str)) = false := by decide)
    (hbase : attributeBase (.Name x xp) "append" X.env (eval (.Name x xp) X.env) = eval (.Name x xp) X.env := by rfl)
    (hfew : ((backTo cpos (starEach [e] X.env)).all (fun x => !x.1) && (backToKw cpos (keywordEach [] X.env)).all (fun x => x.1.isSome)
      && decide ([e].length + ([] : List Keyword).length + (if ([] : List Keyword).isEmpty then 0 else 1) < 30)) = true := by rfl)
    (hline : (apos.endLine == cpos.line) = true := by rfl) (hs1 : starEach [e] X.env = (false, eval e X.env) :: starEach [] X.env := by rfl) (hplain : (backTo cpos (starEach [] X.env)).any (·.1) = false := by rfl)
    (hs : swapsWith (.Call (.Attribute (.Name x xp) "append" apos) [e] [] cpos) none pos.line X.env = pure false := by rfl) :
    PS X (.Expr (.Call (.Attribute (.Name x xp) "append" apos) [e] [] cpos) pos) (tS cv XO (sAppend i f)) := by
  intro pins s σ H D I ⟨H₀, F, ρ, r, g, e', k⟩
  refine ps_expr (pe_bm PySem.F.plainAttrs_list PySem.F.slot_list_append PySem.F.type_list_append mt_append (pe_var (i := i) hN hv hd hcd) (pa_cons h pa_nil hs1) hbase hfew hline hs1 hplain) hs pins s σ H D I ?_
  unfold sAppend at e'
  split at e'
  · rename_i xs hρ
    obtain ⟨O, p, vs, o, hσ, hO, hp, rs⟩ := g.own hρ
    refine ⟨.ref p, hσ, .inl ⟨rfl, vs, SqL.of hp⟩, ?_⟩
    refine tS_bind g e' k fun l d v H1 s1 r1 e1 => ?_
    split at e1
    · rename_i hc
      cases e1
      rw [Bool.and_eq_true] at hc
      have hlen : xs.length < big := of_decide_eq_true hc.2
      refine ⟨p, vs, v, rfl, rfl, s1 _ _ hp, by rw [rs.length]; exact Nat.lt_of_lt_of_le hlen big_le, ?_⟩
      have g1 := g.same s1
      have o1 : SO cv H₀ F ρ σ H1 O := ⟨o.fr, fun a i e => let ⟨vs, q⟩ := o.ls a i e; ⟨vs, s1 _ _ q⟩, fun i t e => (o.sl i t e).same s1⟩
      exact k _ _ (g1.change o1 hρ hσ hO (s1 _ _ hp) ((rs.same s1).append (Reps.one (r1.nl hc.1))))
    · cases e1
  · cases e'
/-! ### y = x.pop() -/
theorem s_pop (j i : Nat) {x y : Str} {xp yp apos cpos : Pos} (hnd : X.N.Nodup) (hN : X.N[i]? = some x := by rfl) (hv : Vis X.env.scope x := by first | exact Or.inl rfl | exact Or.inr (Or.inl rfl) | exact Or.inr (Or.inr rfl))
    (hd : (x == ("__debug__" : Str)) = false := by decide) (hcd : (x == ("__classdict__" : Str)) = false := by decide) (hj : X.N[j]? = some y := by rfl) (hy : Loc X.env.scope y := by first | exact Or.inl rfl | exact Or.inr rfl)
    (hbase : attributeBase (.Name x xp) "pop" X.env (eval (.Name x xp) X.env) = eval (.Name x xp) X.env := by rfl) (hline : (apos.endLine == cpos.line) = true := by rfl)
    (hs : swapsWith (.Call (.Attribute (.Name x xp) "pop" apos) [] [] cpos) (some (.Name y yp)) pos.line X.env = pure false := by rfl) (hf : X.fn y = true ∨ X.env.scope.names.lookup y = some .local := by first | exact .inl rfl | exact .inr rfl | assumption)
    (hjn : Nat.blt j cv.n = true := by rfl) : PS X (.Assign [.Name y yp] (.Call (.Attribute (.Name x xp) "pop" apos) [] [] cpos) pos) (tS cv XO (sPop j i)) := by
  intro pins s σ H D I ⟨H₀, F, ρ, r, g, e', k⟩
  refine ps_set hnd hj hy (pe_bm0 PySem.F.plainAttrs_list PySem.F.slot_list_pop PySem.F.type_list_pop mt_pop (pe_var (i := i) hN hv hd hcd) hbase hline) hs hf pins s σ H D I ?_
  unfold sPop at e'
  split at e'
  · rename_i xs hρ
    obtain ⟨O, p, vs, o, hσ, hO, hp, rs⟩ := g.own hρ
    split at e'
    · rename_i d hd'
      split at e'
      · cases e'
      · rename_i hij
        cases e'
        obtain ⟨v, hv', rv⟩ := rs.get hd'
        refine ⟨.ref p, hσ, .inl ⟨rfl, vs, SqL.of hp⟩, p, vs, v, rfl, rfl, hp, by rw [rs.length]; exact hv', ?_⟩
        have dl : Reps (fun _ _ => False) H xs.dropLast vs.dropLast := by
          rw [List.dropLast_eq_take, List.dropLast_eq_take, rs.length]
          exact rs.take _
        have g2 := g.change o hρ hσ hO hp dl
        refine k _ _ (g2.putLoc hjn ?_)
        exact Rep.mono (fun a ws e => rd_upd (o0 := .l vs) hp e) (fun a ws rl => by rcases rl with ⟨q, _⟩ | ⟨q, _⟩ <;> exact q.elim) d v rv
    · cases e'
  · cases e'
/-! ### x.extend(e) -/
def rExtendD : V → List V → Hp → VK → Prop := fun x vs H Q => ∃ l b xs zs, x = .ref l ∧ vs = [.ref b] ∧ H l = some (.lst xs) ∧ (Rd H b (.lst zs) ∨ Rd H b (.tup zs)) ∧ xs.length + zs.length ≤ sizeLine ∧ Q .non (upd H l (.lst (xs ++ zs)))
theorem extend_tupleW (l : Addr) (items : Array Value) (n : Nat) (b : Addr) (items2 : Array Value) (n2 : Nat) (dd : Option Addr) (sl : Array (Option Value)) (hs0 : ¬(!items.isEmpty && Builtin.List.listTooLong (items.size + items2.size)) = true) (hs1 : items.size ≤ sizeLine) (hs2 : items.size + items2.size ≤ sizeLine + 1) :
    Meets (Builtin.«list.extend» ⟨[.ref l, .ref b], []⟩) (fun _ R s => s.heap.get? l = some { cls := .type "list", dict := none, data := .seq items n, slots := #[] } ∧ s.heap.get? b = some { cls := .type "tuple", dict := dd, data := .seq items2 n2, slots := sl } ∧ R (.ok (.ret Value.none)) { s with heap := s.heap.update l (Obj.mapSeq fun x => x ++ items2), toks := s.toks }) :=
  .of_wp fun prog w A R s h => by
    obtain ⟨hp, g, d, tk, os⟩ := s; obtain ⟨hl, hb, h⟩ := h; have f1 := AutoSeq1.idx_int; have f2 := AutoSeq1.sub_tuple_tuple; have f3 := AutoSeq1.sub_list_list; have f4 := AutoSeq1.sub_tuple_list; have f5 := AutoSeq1.sub_list_tuple;
    have hz' : (items ++ items2).size ≤ sizeLine + 1 := by rw [Array.size_append]; exact hs2
    wp_walk using (wpAny_updateSeq hl rfl (hz := hs1) (_hz' := hz')), AutoSeq1.wpAny_loadPart' hl, AutoSeq1.wpAny_loadPart' hb; exact ⟨_, rfl, h⟩
theorem mt_extendD : MtM X "list.extend" rExtendD := by
  intro pins s σ H x vs v us Q I rx rv h
  obtain ⟨l, b, xs, zs, rfl, rfl, hH, hB, hz, q⟩ := h
  cases rx
  obtain ⟨u, rfl, ru⟩ := rv.one
  cases ru
  obtain ⟨z, its, n, r, hl, e⟩ := I.lstM hH
  rcases hB with hB | hB
  · obtain ⟨z2, its2, n2, r2, hl2, e2⟩ := lstR I hB
    have hsz : its.toArray.size + its2.toArray.size ≤ sizeLine := by rw [List.size_toArray, List.size_toArray]; omega
    have hlong : ¬ (!its.toArray.isEmpty && Builtin.List.listTooLong (its.toArray.size + its2.toArray.size)) = true := by
      rw [notLongL hsz, Bool.and_false]
      exact Bool.false_ne_true
    refine call_meets F.slot_list_extend ⟨_, e, rfl⟩ F.entry_list_extend (F.args_list_extend_2 _ _)
      (AutoSeq1.list_extend_list_list_0 l its.toArray n b its2.toArray n2 hlong (by rw [List.size_toArray]; omega) (by omega)) ⟨e, e2, ?_⟩
    refine ⟨.non, _, I.lset (its' := its ++ its2) hH e (by simp) (r.append r2) ?_, rfl, q⟩
    rw [List.length_append]
    omega
  · obtain ⟨its2, r2, ⟨⟨cls2, dd2, data2, sl2⟩, e2, hc2, n2, hd2⟩, z2⟩ := I.tuple (.inl hB)
    simp only at hc2 hd2
    subst hc2 hd2
    have hl2 := r2.length
    have hsz : its.toArray.size + its2.toArray.size ≤ sizeLine := by rw [List.size_toArray, List.size_toArray]; omega
    have hlong : ¬ (!its.toArray.isEmpty && Builtin.List.listTooLong (its.toArray.size + its2.toArray.size)) = true := by
      rw [notLongL hsz, Bool.and_false]
      exact Bool.false_ne_true
    refine call_meets F.slot_list_extend ⟨_, e, rfl⟩ F.entry_list_extend (F.args_list_extend_2 _ _)
      (extend_tupleW l its.toArray n b its2.toArray n2 dd2 sl2 hlong (by rw [List.size_toArray]; omega) (by omega)) ⟨e, e2, ?_⟩
    refine ⟨.non, _, I.lset (its' := its ++ its2) hH e (by simp) (r.append r2) ?_, rfl, q⟩
    rw [List.length_append]
    omega
theorem s_extend (i : Nat) {x : Str} {xp apos cpos : Pos} (h : PE X e (tF ⟨cv.cv, XO⟩ f)) (hN : X.N[i]? = some x := by rfl) (hv : Vis X.env.scope x := by first | exact Or.inl rfl | exact Or.inr (Or.inl rfl) | exact Or.inr (Or.inr rfl))
    (hd : (x == ("__debug__" : Str)) = false := by decide) (hcd : (x == ("__classdict__" : Str)) = false := by decide)
    (hbase : attributeBase (.Name x xp) "extend" X.env (eval (.Name x xp) X.env) = eval (.Name x xp) X.env := by rfl)
    (hfew : ((backTo cpos (starEach [e] X.env)).all (fun x => !x.1) && (backToKw cpos (keywordEach [] X.env)).all (fun x => x.1.isSome)
      && decide ([e].length + ([] : List Keyword).length + (if ([] : List Keyword).isEmpty then 0 else 1) < 30)) = true := by rfl)
    (hline : (apos.endLine == cpos.line) = true := by rfl) (hs1 : starEach [e] X.env = (false, eval e X.env) :: starEach [] X.env := by rfl) (hplain : (backTo cpos (starEach [] X.env)).any (·.1) = false := by rfl)
    (hs : swapsWith (.Call (.Attribute (.Name x xp) "extend" apos) [e] [] cpos) none pos.line X.env = pure false := by rfl) :
    PS X (.Expr (.Call (.Attribute (.Name x xp) "extend" apos) [e] [] cpos) pos) (tS cv XO (sExtend i f)) := by
  intro pins s σ H D I ⟨H₀, F, ρ, r, g, e', k⟩
  refine ps_expr (pe_bm PySem.F.plainAttrs_list PySem.F.slot_list_extend PySem.F.type_list_extend mt_extendD (pe_var (i := i) hN hv hd hcd) (pa_cons h pa_nil hs1) hbase hfew hline hs1 hplain) hs pins s σ H D I ?_
  unfold sExtend at e'
  split at e'
  · rename_i xs hρ
    obtain ⟨O, p, vs, o, hσ, hO, hp, rs⟩ := g.own hρ
    refine ⟨.ref p, hσ, .inl ⟨rfl, vs, SqL.of hp⟩, ?_⟩
    refine tS_bind g e' k fun l d v H1 s1 r1 e1 => ?_
    have g1 := g.same s1
    have o1 : SO cv H₀ F ρ σ H1 O := ⟨o.fr, fun a i e => let ⟨vs, q⟩ := o.ls a i e; ⟨vs, s1 _ _ q⟩, fun i t e => (o.sl i t e).same s1⟩
    split at e1
    · rename_i ys
      split at e1
      · rename_i hc
        cases e1
        rw [Bool.and_eq_true] at hc
        have hlen : xs.length + ys.length ≤ big := of_decide_eq_true hc.2
        obtain ⟨q, us, rfl, rl, ru⟩ := r1
        refine ⟨p, q, vs, us, rfl, rfl, s1 _ _ hp, .inl rl.rd, by rw [rs.length, ru.length]; exact le_big hlen, ?_⟩
        exact k _ _ (g1.change o1 hρ hσ hO (s1 _ _ hp) ((rs.same s1).append (ru.nl hc.1)))
      · cases e1
    · rename_i ys
      split at e1
      · rename_i hc
        cases e1
        rw [Bool.and_eq_true] at hc
        have hlen : xs.length + ys.length ≤ big := of_decide_eq_true hc.2
        obtain ⟨q, us, rfl, hq, ru⟩ := r1
        refine ⟨p, q, vs, us, rfl, rfl, s1 _ _ hp, .inr hq, by rw [rs.length, ru.length]; exact le_big hlen, ?_⟩
        exact k _ _ (g1.change o1 hρ hσ hO (s1 _ _ hp) ((rs.same s1).append (ru.nl hc.1)))
      · cases e1
    · cases e1
  · cases e'
end
end KT
set_option Elab.async false
set_option linter.all false
set_option maxRecDepth 100000
namespace KT
open PySem PySem.Spec PyProof.Rows L2
section
variable {X : Cx} {XO : XOF} {cv : Cfg} {e : Expr} {f fa fb fc : FE} {st : Stmt} {rest sa sb body : List Stmt} {a b : FS} {pos : Pos} {tg iter : Expr} {fi : FI} {tf : FT}
variable {H₀ F F' H H1 : Hp} {ρ : Rho} {σ : L2.St}
/-! ### while -/
theorem s_while {c : Expr} (hp : PassesOwn (model X.prog X.w) X.A X.env X.xe) (hc : PT X c (tTest (tF ⟨cv.cv, XO⟩ fc))) (hb : PSs X body (tS cv XO b)) : PS X (.While c body [] pos) (tS cv XO (sWhile fc b)) :=
  PS.imp (ps_while hp hc hb) fun D σ H ⟨H₀, F, ρ, r, g, e, k⟩ => by
    refine ⟨fun m σ' H' => ∃ ρ', SR cv H₀ F ρ' σ' H' ∧ whileGo fc b m ρ' = some r, ⟨wFuel, ρ, g, e⟩, ?_⟩
    rintro m σ1 H1 ⟨ρ1, g1, e1⟩
    cases m with
    | zero => cases e1
    | succ m =>
      unfold whileGo at e1
      refine tS_bind g1 e1 k fun l d v H2 s2 r2 e2 => ?_
      have g2 := g1.same s2
      split at e2
      · refine ⟨true, r2, L2.iteT ?_⟩
        refine ⟨fun σ' H' => ∃ ρ', SR cv H₀ F ρ' σ' H' ∧ whileGo fc b m ρ' = some r, fun σ' H' ⟨ρ', g', e'⟩ => ⟨m, Nat.lt_succ_self m, ρ', g', e'⟩, ?_⟩
        cases hbr : b ρ1 with
        | none => rw [hbr] at e2; cases e2
        | some x =>
          rw [hbr] at e2
          refine ⟨H₀, F, ρ1, x, g2, hbr, ?_⟩
          cases x with
          | next ρ' => exact fun σ' H' g' => ⟨ρ', g', e2⟩
          | cont ρ' => exact fun σ' H' g' => ⟨ρ', g', e2⟩
          | brk ρ' => cases e2; exact k
          | ret d => cases e2; exact k
          | retL d ds => cases e2; exact k
          | exc c ρ' => cases e2; exact k
      · refine ⟨false, r2, L2.iteF ?_⟩
        cases e2
        exact k σ1 H2 g2
      · cases e2
/-! ### what a loop walks -/
/-- the iterator J yields the data ds wherever Z stays -/
def Yields (Z : Hp) (J : It) (ds : List PyData) : Prop :=
  ∀ H2, Same Z H2 → ∀ i, (∀ d, ds[i]? = some d → J.go i H2 ∧ ∀ x H3, J.yld i H2 x H3 → Same H2 H3 ∧ Rep (fun _ _ => False) H3 d x) ∧ (i = ds.length → J.stop i H2)
/-- it does so wherever the tuples stay, and the lists that were allowed -/
def ItFrom (H₀ Hs : Hp) (l : Nat) (ds : List PyData) (J : It) (H1 : Hp) : Prop :=
  ∀ Z, (∀ a xs, Rd H1 a (.tup xs) → Rd Z a (.tup xs)) → (∀ a vs, Rl (PL H₀ Hs l) H1 a vs → Rd Z a (.lst vs)) → Yields Z J ds
def tI (XO : XOT) (fi : FI) : TI := fun σ H R => ∃ H₀ Hs ρ r, G XO.cv H₀ Hs ρ σ H ∧ fi ρ = some r ∧ (∀ l ds J H1, r = .ok l ds → Same H H1 → ItFrom H₀ Hs l ds J H1 → R J H1) ∧ ∀ c H', r = .exc c → Same H H' → XO.f c σ H'
theorem PI.imp {wi wi' : TI} (h : PI X tg iter wi) (g : ∀ σ H R, wi' σ H R → wi σ H R) : PI X tg iter wi' := fun pins s σ H R I q => h pins s σ H R I (g σ H R q)
theorem PI.or {wi wi' : TI} (h : PI X tg iter wi) (h' : PI X tg iter wi') : PI X tg iter (fun σ H R => wi σ H R ∨ wi' σ H R) := fun pins s σ H R I q => q.elim (h pins s σ H R I) (h' pins s σ H R I)
theorem yields_list {K : PySem.W.Frag} {Z : Hp} {p : Addr} {vs : List V} {ds : List PyData} (hl : Rd Z p (.lst vs)) (r : Reps (fun _ _ => False) Z ds vs) : Yields Z (Itl K p) ds := fun H2 s i => by
  have hq : SqL K H2 p vs := .inl (Rd.same s hl)
  refine ⟨fun d hd => ?_, fun hi => ⟨vs, hq, by rw [r.length, hi]; exact Nat.le_refl _⟩⟩
  obtain ⟨v, hv, rv⟩ := r.get hd
  refine ⟨⟨vs, v, hq, hv⟩, fun x H3 y => ?_⟩
  obtain ⟨e, y⟩ := y
  subst e
  have := y vs hq
  rw [hv] at this
  cases this
  exact ⟨Same.refl _, rv.same s⟩
theorem yields_tup {K : PySem.W.Frag} {Z : Hp} {p : Addr} {vs : List V} {ds : List PyData} (hl : Rd Z p (.tup vs)) (r : Reps (fun _ _ => False) Z ds vs) : Yields Z (Itt K p) ds := fun H2 s i => by
  have hq : SqT K H2 p vs := .inl (Rd.same s hl)
  refine ⟨fun d hd => ?_, fun hi => ⟨vs, hq, by rw [r.length, hi]; exact Nat.le_refl _⟩⟩
  obtain ⟨v, hv, rv⟩ := r.get hd
  refine ⟨⟨vs, v, hq, hv⟩, fun x H3 y => ?_⟩
  obtain ⟨e, y⟩ := y
  subst e
  have := y vs hq
  rw [hv] at this
  cases this
  exact ⟨Same.refl _, rv.same s⟩
theorem yields_ints {Z : Hp} {n : Nat} : Yields Z (Itr 0 n) (numsTo n) := fun H2 s i => by
  refine ⟨fun d hd => ?_, fun hi => ?_⟩
  · unfold numsTo at hd
    rw [List.getElem?_map] at hd
    cases hr : (List.range n)[i]? with
    | none => rw [hr] at hd; cases hd
    | some k =>
      rw [hr] at hd
      cases hd
      obtain ⟨hlt, hk⟩ := List.getElem?_eq_some_iff.mp hr
      rw [List.length_range] at hlt
      rw [List.getElem_range] at hk
      subst hk
      refine ⟨hlt, fun x H3 y => ?_⟩
      obtain ⟨e, y⟩ := y
      subst e y
      refine ⟨Same.refl _, ?_⟩
      show V.int (0 + (i : Int)) = V.int (i : Int)
      rw [Int.zero_add]
  · show n ≤ i
    rw [hi]
    simp [numsTo]
theorem i_seq {XO : XOT} (h : PE X e (tF XO f)) : PI X tg e (tI XO (iSeq f)) := PI.imp (PI.or (pi_list h) (pi_tup h)) fun σ H R ⟨H₀, Hs, ρ, r, g, e, k, kx⟩ => by
  unfold iSeq at e
  split at e
  · rename_i l ds hf
    split at e
    · rename_i hlf
      cases e
      refine .inl ⟨H₀, Hs, ρ, _, g, hf, ⟨fun l' d' v H1 e' s1 r1 => ?_, fun c H' e => (nomatch e)⟩⟩
      cases e'
      obtain ⟨p, vs, rfl, rl, rs⟩ := r1
      refine ⟨p, rfl, ⟨vs, .inl rl.rd⟩, k l ds (Itl X.K p) H1 rfl s1 fun Z hT hL => yields_list (hL p vs rl) ?_⟩
      exact Reps.free hT ds vs hlf rs
    · cases e
  · rename_i l ds hf
    split at e
    · rename_i hlf
      cases e
      refine .inr ⟨H₀, Hs, ρ, _, g, hf, ⟨fun l' d' v H1 e' s1 r1 => ?_, fun c H' e => (nomatch e)⟩⟩
      cases e'
      obtain ⟨p, vs, rfl, hp, rs⟩ := r1
      refine ⟨p, rfl, ⟨vs, .inl hp⟩, k 2 ds (Itt X.K p) H1 rfl s1 fun Z hT hL => yields_tup (hT p vs hp) ?_⟩
      exact Reps.free hT ds vs hlf rs
    · cases e
  · rename_i c hf
    cases e
    exact .inl ⟨H₀, Hs, ρ, _, g, hf, ⟨fun l' d' v H1 e' s1 r1 => (nomatch e'), fun c' H' e' s => kx c' H' (by cases e'; rfl) s⟩⟩
  · cases e
theorem i_r1 {XO : XOT} {p : Pos} (C : BC X) (h : PE X e (tF XO f)) (hg : Gl X "range" := by rfl) (hs : starEach [e] X.env = [(false, eval e X.env)] := by rfl) : PI X tg (.Call (.Name "range" p) [e] [] pos) (tI XO (iR1 f)) :=
  PI.imp (pi_range1 hg C.mrange (pa_cons h pa_nil (by rw [hs]; rfl)) hs) fun σ H R ⟨H₀, Hs, ρ, r, g, e, k, kx⟩ => by
    unfold iR1 at e
    split at e
    · rename_i l n hf
      split at e
      · rename_i hn
        cases e
        refine ⟨H₀, Hs, ρ, _, g, hf, ⟨fun l' d' v H1 e' s1 r1 => ?_, fun c H' e => (nomatch e)⟩⟩
        cases e'
        have hb : big < 2 ^ 62 := by decide
        refine ⟨n, by rw [show v = V.int n from r1], by omega, by omega, ?_⟩
        exact k 2 _ _ H1 rfl s1 fun Z _ _ => yields_ints
      · cases e
    · rename_i c hf
      cases e
      exact ⟨H₀, Hs, ρ, _, g, hf, ⟨fun l' d' v H1 e' s1 r1 => (nomatch e'), fun c' H' e' s => kx c' H' (by cases e'; rfl) s⟩⟩
    · cases e
/-! ### for -/
/-- what stays while others' own lists may change -/
def froz (O : Own) (H : Hp) : Hp := fun a => match O a with
  | some _ => none
  | none => H a
theorem froz_none {O : Own} {H : Hp} {a : Addr} (h : O a = none) : froz O H a = H a := by unfold froz; rw [h]
theorem froz_some {O : Own} {H : Hp} {a : Addr} {i : Nat} (h : O a = some i) : froz O H a = none := by unfold froz; rw [h]
theorem rd_froz {O : Own} {H : Hp} {a : Addr} {xs : List V} (ls : ∀ a i, O a = some i → ∃ vs : OwV, H a = some vs.ho) (h : Rd H a (.tup xs)) : Rd (froz O H) a (.tup xs) := by
  cases q : O a with
  | none =>
    rcases h with h | ⟨u, h⟩
    · exact .inl (by rw [froz_none q]; exact h)
    · exact .inr ⟨u, by rw [froz_none q]; exact h⟩
  | some i =>
    obtain ⟨vs, hv⟩ := ls a i q
    rcases h with h | ⟨_, h⟩ <;> (rw [h] at hv; cases vs <;> cases hv)
theorem SR.freeze {O : Own} (g : SR cv H₀ F ρ σ H) (o : SO cv H₀ F ρ σ H O) : SR cv H₀ (froz O H) ρ σ H ∧ Same F (froz O H) := by
  have hF : Same F (froz O H) := fun b u e => by
    have : O b = none := by
      cases q : O b with
      | none => rfl
      | some i => rw [o.fr b i q] at e; cases e
    rw [froz_none this]
    exact g.s1 b u e
  refine ⟨⟨g.s0.trans hF, fun b u e => ?_, g.len, g.ln, O, fun a i e => froz_some e, o.ls, o.sl⟩, hF⟩
  cases q : O b with
  | none => rw [froz_none q] at e; exact e
  | some i => rw [froz_some q] at e; cases e
theorem SR.thaw (g : SR cv H₀ F' ρ σ H) (h0 : Same H₀ F) (h : Same F F') : SR cv H₀ F ρ σ H :=
  ⟨h0, h.trans g.s1, g.len, g.ln, let ⟨O, o⟩ := g.ex; ⟨O, fun a i e => h.free (o.fr a i e), o.ls, o.sl⟩⟩
theorem KS.thaw {D : Ends} {r : RS} (h0 : Same H₀ F) (h : Same F F') (k : KS cv XO H₀ F D r) : KS cv XO H₀ F' D r := by
  cases r with
  | next ρ' => exact fun σ' H' g => k σ' H' (g.thaw h0 h)
  | ret d => exact fun v H' s rp => k v H' (h.trans s) rp
  | exc c ρ' => exact fun σ' H' g => k σ' H' (g.thaw h0 h)
  | brk ρ' => exact fun σ' H' g => k σ' H' (g.thaw h0 h)
  | cont ρ' => exact fun σ' H' g => k σ' H' (g.thaw h0 h)
  | retL d ds => exact fun v H' s rp q => k v H' (h.trans s) rp q
/-- a target, on data without lists -/
def TgD (cv : Cfg) (g : TG) (tf : FT) : Prop := ∀ (H₀ F : Hp) (ρ ρ1 : Rho) (σ : L2.St) (H : Hp) (d : PyData) (x : V) (Q : L2.St → Hp → Prop), SR cv H₀ F ρ σ H → Rep (fun _ _ => False) H d x → tf d ρ = some ρ1 → (∀ σ1, SR cv H₀ F ρ1 σ1 H → Q σ1 H) → g x σ H Q
theorem for_core {J : It} {ds : List PyData} {D : Ends} {r : RS} {g : TG} (s : SR cv H₀ F ρ σ H) (hy : Yields F J ds) (ht : TgD cv g tf) (e : forGo tf b ds ρ = some r) (k : KS cv XO H₀ F D r) :
    ∃ W : Nat → Nat → L2.St → Hp → Prop, (∃ m, W 0 m σ H) ∧ ∀ i m σ H, W i m σ H →
      (J.stop i H ∧ D.nx σ H) ∨ (J.go i H ∧ ∃ N : L2.St → Hp → Prop, (∀ σ' H', N σ' H' → ∃ m', m' < m ∧ W (i + 1) m' σ' H') ∧ ∀ x H', J.yld i H x H' → g x σ H' fun σ2 H2 => tS cv XO b { D with nx := N, ct := N, bk := D.nx } σ2 H2) := by
  refine ⟨fun i m σ H => ∃ ρ', SR cv H₀ F ρ' σ H ∧ forGo tf b (ds.drop i) ρ' = some r ∧ i ≤ ds.length ∧ m = ds.length - i, ⟨ds.length, ρ, s, e, Nat.zero_le _, rfl⟩, ?_⟩
  rintro i m σ1 H1 ⟨ρ1, s1, e1, hi, rfl⟩
  obtain ⟨y1, y2⟩ := hy H1 s1.s1 i
  cases hd : ds[i]? with
  | none =>
    have hl : ds.length ≤ i := List.getElem?_eq_none_iff.mp hd
    have hil : i = ds.length := by omega
    rw [List.drop_eq_nil_of_le hl] at e1
    cases e1
    exact .inl ⟨y2 hil, k σ1 H1 s1⟩
  | some d =>
    obtain ⟨hlt, hde⟩ := List.getElem?_eq_some_iff.mp hd
    rw [List.drop_eq_getElem_cons hlt, hde] at e1
    obtain ⟨hgo, hyl⟩ := y1 d hd
    refine .inr ⟨hgo, fun σ' H' => ∃ ρ', SR cv H₀ F ρ' σ' H' ∧ forGo tf b (ds.drop (i + 1)) ρ' = some r, fun σ' H' ⟨ρ', s', e'⟩ => ⟨ds.length - (i + 1), by omega, ρ', s', e', by omega, rfl⟩, fun x H2 y => ?_⟩
    obtain ⟨sm, rx⟩ := hyl x H2 y
    unfold forGo at e1
    cases htf : tf d ρ1 with
    | none => rw [htf] at e1; cases e1
    | some ρ2 =>
      rw [htf] at e1
      refine ht H₀ F ρ1 ρ2 σ1 H2 d x _ (s1.same sm) rx htf fun σ2 s2 => ?_
      dsimp only at e1
      cases hb : b ρ2 with
      | none => rw [hb] at e1; cases e1
      | some y =>
        rw [hb] at e1
        refine ⟨H₀, F, ρ2, y, s2, hb, ?_⟩
        cases y with
        | next ρ' => exact fun σ' H' g' => ⟨ρ', g', e1⟩
        | cont ρ' => exact fun σ' H' g' => ⟨ρ', g', e1⟩
        | brk ρ' => cases e1; exact k
        | ret d => cases e1; exact k
        | retL d ds => cases e1; exact k
        | exc c ρ' => cases e1; exact k
/-- a target of the text and what it does on data -/
structure Tg (X : Cx) (cv : Cfg) (tg : Expr) (tf : FT) : Prop where
  ex : ∃ g, PG X tg g ∧ TgD cv g tf
theorem g_name (i : Nat) {x : Str} (hN : X.N.Nodup) (hi : X.N[i]? = some x := by rfl) (hx : Loc X.env.scope x := by first | exact Or.inl rfl | exact Or.inr rfl)
    (hf : X.fn x = true ∨ X.env.scope.names.lookup x = some .local := by first | exact .inl rfl | exact .inr rfl | assumption) (hin : Nat.blt i cv.n = true := by rfl) : Tg X cv (.Name x pos) (tgName i) :=
  ⟨gName i, pg_name hN hi hx hf, fun H₀ F ρ ρ1 σ H d x Q s r e q => by cases e; exact q _ (s.putLoc hin r)⟩
theorem s_for (hp : PassesOwn (model X.prog X.w) X.A X.env X.xe) (hc : X.calm = true) (hi : PI X tg iter (tI ⟨cv.cv, XO⟩ fi)) (ht : Tg X cv tg tf) (hb : PSs X body (tS cv XO b)) (hs : ∀ x, foldedSetIterable iter X.env x = pure x := by intro _; rfl) :
    PS X (.For tg iter body [] pos) (tS cv XO (sFor fi tf b)) := by
  obtain ⟨gt, hg, hd⟩ := ht.ex
  refine PS.imp (ps_for hp hc hi hg hb hs) fun D σ H ⟨H₀, F, ρ, r, g, e, k⟩ => ?_
  unfold sFor at e
  cases hf : fi ρ with
  | none => rw [hf] at e; cases e
  | some x =>
    rw [hf] at e
    refine ⟨H₀, H, ρ, x, g.g, hf, fun l ds J H1 ex s1 it => ?_, fun c H' ex s => ?_⟩
    · subst ex
      dsimp only at e
      split at e
      · rename_i h2
        obtain ⟨O, o⟩ := g.ex
        have o1 : SO cv H₀ F ρ σ H1 O := ⟨o.fr, fun a i e => let ⟨vs, q⟩ := o.ls a i e; ⟨vs, s1 _ _ q⟩, fun i t e => (o.sl i t e).same s1⟩
        obtain ⟨gf, hF⟩ := (g.same s1).freeze o1
        refine for_core gf (it (froz O H1) (fun a xs hx => ?_) fun a vs rl => ?_) hd e (k.thaw g.s0 hF)
        · exact rd_froz o1.ls hx
        · have no : ∀ z, PL H₀ H l z a → O a = none := fun z p => by
            have hn : H a = none := by
              match l, h2, p with
              | l + 2, _, p => exact p.2
            cases q : O a with
            | none => rfl
            | some i => obtain ⟨vs, hv⟩ := o.ls a i q; rw [hn] at hv; cases vs <;> cases hv
          rcases rl with ⟨p, hx⟩ | ⟨p, u, hx⟩
          · exact .inl (by rw [froz_none (no _ p)]; exact hx)
          · exact .inr ⟨u, by rw [froz_none (no _ p)]; exact hx⟩
      · cases e
    · subst ex
      cases e
      exact k σ H' (g.same s)
theorem s_forV (i : Nat) {x : Str} {xp : Pos} (hp : PassesOwn (model X.prog X.w) X.A X.env X.xe) (hc : X.calm = true) (ht : Tg X cv tg tf) (hb : PSs X body (tS cv XO b)) (hN : X.N[i]? = some x := by rfl)
    (hv : Vis X.env.scope x := by first | exact Or.inl rfl | exact Or.inr (Or.inl rfl) | exact Or.inr (Or.inr rfl)) (hd : (x == ("__debug__" : Str)) = false := by decide) (hcd : (x == ("__classdict__" : Str)) = false := by decide)
    (hs : ∀ y, foldedSetIterable (.Name x xp) X.env y = pure y := by intro _; rfl) : PS X (.For tg (.Name x xp) body [] pos) (tS cv XO (sForV i tf b)) := by
  obtain ⟨gt, hg, hd'⟩ := ht.ex
  refine PS.imp (ps_for hp hc (PI.or (pi_list (pe_var (i := i) hN hv hd hcd)) (pi_tup (pe_var (i := i) hN hv hd hcd))) hg hb hs) fun D σ H ⟨H₀, F, ρ, r, g, e, k⟩ => ?_
  obtain ⟨O, o⟩ := g.ex
  obtain ⟨gf, hF⟩ := g.freeze o
  have hT : ∀ a xs, Rd H a (.tup xs) → Rd (froz O H) a (.tup xs) := fun a xs hx => rd_froz o.ls hx
  unfold sForV at e
  split at e
  · rename_i xs hρ
    obtain ⟨p, vs, hσ, hO, hp', rs⟩ := o.sl i _ hρ
    -- the list is no more one's own
    have hρl : i < ρ.length := (List.getElem?_eq_some_iff.mp hρ).1
    have o2 : SO cv H₀ F (ρ.set i (some (.loc (.list xs)))) σ H (fun a => if a = p then none else O a) := by
      refine ⟨fun a j q => ?_, fun a j q => ?_, fun j t q => ?_⟩
      · by_cases z : a = p
        · rw [if_pos z] at q; cases q
        · rw [if_neg z] at q; exact o.fr a j q
      · by_cases z : a = p
        · rw [if_pos z] at q; cases q
        · rw [if_neg z] at q; exact o.ls a j q
      · by_cases hij : i = j
        · subst hij
          rw [set_get _ _ _ _ hρl, if_pos rfl] at q
          cases q
          exact ⟨.ref p, hσ, p, vs, rfl, .inl ⟨⟨rfl, if_pos rfl, g.s0.free (o.fr p i hO)⟩, hp'⟩, rs.imp fun _ _ z => z.elim⟩
        · rw [set_get _ _ _ _ hρl, if_neg hij] at q
          have h := o.sl j t q
          have hn : ∀ a, O a = none → (if a = p then none else O a) = none := fun a q => by
            by_cases z : a = p
            · rw [if_pos z]
            · rw [if_neg z]; exact q
          cases t with
          | par d => obtain ⟨w, e1, rr⟩ := h; exact ⟨w, e1, rr.imp fun _ a z => hn a z⟩
          | loc d => obtain ⟨w, e1, rr⟩ := h; exact ⟨w, e1, rr.imp fun _ a z => ⟨z.1, hn a z.2.1, z.2.2⟩⟩
          | own ds =>
            obtain ⟨q1, ws, e1, hq, hqp, rs'⟩ := h
            have hne : q1 ≠ p := fun z => by rw [z, hO] at hq; cases hq; exact hij rfl
            exact ⟨q1, ws, e1, (if_neg hne).trans hq, hqp, rs'⟩
          | own2 ds =>
            obtain ⟨q1, ws, e1, hq, hqp, rs'⟩ := h
            have hne : q1 ≠ p := fun z => by rw [z, hO] at hq; cases hq; exact hij rfl
            exact ⟨q1, ws, e1, (if_neg hne).trans hq, hqp, rs'.imp fun _ a z => ⟨z.1, hn a z.2.1, z.2.2⟩⟩
          | lent ds =>
            obtain ⟨ws, e1, hq, hqp, rs'⟩ := h
            have hne : cv.lend ≠ p := fun z => by rw [z, hO] at hq; cases hq; exact hij rfl
            exact ⟨ws, e1, (if_neg hne).trans hq, hqp, rs'⟩
          | dct ks =>
            obtain ⟨q1, e1, hq, hd⟩ := h
            have hne : q1 ≠ p := fun z => by rw [z, hO] at hq; cases hq; exact hij rfl
            exact ⟨q1, e1, (if_neg hne).trans hq, hd⟩
          | ex c => exact h
    have g2 : SR cv H₀ F (ρ.set i (some (.loc (.list xs)))) σ H := ⟨g.s0, g.s1, by simp [g.len], g.ln, _, o2⟩
    obtain ⟨gf2, hF2⟩ := g2.freeze o2
    refine .inl ⟨.ref p, hσ, p, rfl, ⟨vs, SqL.of hp'⟩, for_core gf2 (yields_list (vs := vs) (.inl ?_) ?_) hd' e (k.thaw g.s0 hF2)⟩
    · rw [froz_none (if_pos rfl)]; exact hp'
    · refine Reps.mono (fun a ys hx => ?_) (fun a ws rl => by rcases rl with ⟨q, _⟩ | ⟨q, _⟩ <;> exact q.elim) xs vs rs
      exact rd_froz o2.ls hx
  · rename_i xs hρ
    split at e
    · rename_i hlf
      obtain ⟨v, hσ, p, vs, rfl, rl, rs⟩ := o.sl i _ hρ
      refine .inl ⟨.ref p, hσ, p, rfl, ⟨vs, .inl rl.rd⟩, for_core gf (yields_list ?_ (Reps.free hT xs vs hlf rs)) hd' e (k.thaw g.s0 hF)⟩
      rcases rl with ⟨q, hx⟩ | ⟨q, u, hx⟩
      · exact .inl (by rw [froz_none q]; exact hx)
      · exact .inr ⟨u, by rw [froz_none q]; exact hx⟩
    · cases e
  · rename_i xs hρ
    split at e
    · rename_i hlf
      obtain ⟨v, hσ, p, vs, rfl, rl, rs⟩ := o.sl i _ hρ
      refine .inl ⟨.ref p, hσ, p, rfl, ⟨vs, .inl rl.rd⟩, for_core gf (yields_list ?_ (Reps.free hT xs vs hlf rs)) hd' e (k.thaw g.s0 hF)⟩
      rcases rl with ⟨q, hx⟩ | ⟨q, u, hx⟩
      · exact .inl (by rw [froz_none q.2.1]; exact hx)
      · exact .inr ⟨u, by rw [froz_none q.2.1]; exact hx⟩
    · cases e
  · rename_i xs hρ
    split at e
    · rename_i hlf
      obtain ⟨v, hσ, p, vs, rfl, hq, rs⟩ := o.sl i _ hρ
      exact .inr ⟨.ref p, hσ, p, rfl, ⟨vs, .inl hq⟩, for_core gf (yields_tup (hT p vs hq) (Reps.free hT xs vs hlf rs)) hd' e (k.thaw g.s0 hF)⟩
    · cases e
  · rename_i xs hρ
    split at e
    · rename_i hlf
      obtain ⟨v, hσ, p, vs, rfl, hq, rs⟩ := o.sl i _ hρ
      exact .inr ⟨.ref p, hσ, p, rfl, ⟨vs, .inl hq⟩, for_core gf (yields_tup (hT p vs hq) (Reps.free hT xs vs hlf rs)) hd' e (k.thaw g.s0 hF)⟩
    · cases e
  · cases e
end
end KT
set_option Elab.async false
set_option linter.all false
set_option maxRecDepth 100000
namespace KT
open PySem PySem.Spec PyProof.Rows L2
/-! ### what a def promises: its mirror g -/
def spD (cv : Nat → Value) (n : Nat) (g : FC) : Sp := fun vs H Q E => ∃ ds r, vs.length = n ∧ Reps (fun _ _ => True) H ds vs ∧ g ds = some r ∧
  (∀ d v H', r = .ok d → Same H H' → Rep (fun z a => z = false ∧ H a = none) H' d v → Q v H') ∧ ∀ c H', r = .exc c → Same H H' → E (cv c) none H'
/-- an error of a callee reaches what this body wants of errors -/
def XLink (CX : CXT) (X : Cx) (XO : XOT) : Prop := ∀ pins σ H s e s', Inv X pins σ H s → CX X.stack H s (fun cls _ H' => ∃ c, cls = XO.cv c ∧ XO.f c σ H') e s' → X.xe e s'
/-- a def of the text that keeps its promise -/
structure FnF (CX : CXT) (P : Program) (w : World) (K : PySem.W.Frag) (mg : Str → Option Value) (base : Heap) (cv : Nat → Value) (n : Nat) (x : Str) (ar : Nat) (g : FC) : Prop where
  ex : ∃ f fd ps, FnOk P w K mg base CX n f fd ps (spD cv ar g) ∧ mg x = some (.ref f) ∧ PySem.W.keepIn K (.ref f) = true ∧ Binds K fd ps []
section
variable {X : Cx} {XO : XOT} {CX : CXT} {cv : Nat → Value} {a b c e : Expr} {es : List Expr} {fa fb fc f : FE} {fs : List FE} {pos p : Pos} {n ar : Nat} {x : Str} {g : FC}
theorem x_call (F : FnF CX X.prog X.w X.K X.mg X.base XO.cv n x ar g) (hr : Room n X.A) (L : XLink CX X XO) (ha : PA X (e :: es) (tAs XO fs)) (hn : Nat.beq ar fs.length = true := by rfl) (hg : Gl X x := by rfl)
    (hdb : (x == ("__debug__" : Str)) = false := by decide) (he : starEach (e :: es) X.env = (false, eval e X.env) :: starEach es X.env := by exact star_cons rfl) (hpl : (backTo pos (starEach es X.env)).any (·.1) = false := by exact star_any rfl) :
    PE X (.Call (.Name x p) (e :: es) [] pos) (tF XO (eCall g fs)) := by
  obtain ⟨f, fd, ps, F, hm, hk, hb⟩ := F.ex
  intro pins s σ H Q I ⟨H₀, Hs, ρ, r, gg, ee, kk⟩
  refine wpAny_Call_Name_kw (ld_glob I hg hm ?_ hdb)
  have hA : tAs XO fs σ H (fun vs H1 => spD XO.cv ar g vs H1 Q (fun cls _ H' => ∃ c, cls = XO.cv c ∧ XO.f c σ H')) := by
    refine tAs_bind gg ee kk fun l ds vs H1 s1 g1 r1 hl e1 k1 => ?_
    have hlen : vs.length = ar := by rw [r1.length, hl, Nat.eq_of_beq_eq_true hn]
    cases hg : g ds with
    | none => rw [hg] at e1; cases e1
    | some rc =>
      rw [hg] at e1
      refine ⟨ds, rc, hlen, r1.imp fun _ _ _ => trivial, hg, fun d v H' er s rp => ?_, fun c H' er s => ?_⟩
      · subst er
        exact k1.give (l := 2) e1 s (rp.imp fun z a q => ⟨q.1, g1.s1.free q.2⟩)
      · subst er
        exact ⟨c, rfl, k1.2 c H' (by cases e1; rfl) s⟩
  refine PySem.W.callWith_K (h₀ := X.base) I.ok.mod.kin hk (thn (ha pos pins s σ H _ I hA) fun us s1 ⟨vs, H1, I1, r, q⟩ => ⟨I1.kIn, ?_⟩) he hpl
  have hl : (us ++ []).length = ps.length := by rw [List.append_nil, ← r.length]; exact F.len _ _ _ _ q
  have hB := hb s1 us I1.kIn hl
  rw [List.append_nil] at hB
  refine wpAny_call (codeAny_mono (F.run X.A X.stack s1 H1 ⟨us, []⟩ us vs Q _ hr I1.env0 hB r q) fun r s' hq => ?_)
  cases r with
  | error e => exact L pins σ H1 s1 e s' I1 hq
  | ok fl =>
    cases fl with
    | ret u => exact I1.after hq
    | next => exact False.elim hq
    | brk => exact False.elim hq
    | cont => exact False.elim hq
/-! ### Python's own calls -/
/-- a call of one argument by data -/
def CallD (r : List V → Hp → VK → Prop) (op : PyData → Option PyData) : Prop :=
  ∀ (H₀ Hs H : Hp) (l : Nat) (x d : PyData) (v : V) (Q : VK), Same H₀ Hs → Same Hs H → op x = some d → Rep (PL H₀ Hs l) H x v → (∀ z H', Same H H' → Rep (PL H₀ Hs 2) H' d z → Q z H') → r [v] H Q
theorem call_read {r : List V → Hp → VK → Prop} {op : PyData → Option PyData} (ho : CallD r op) {σ : L2.St} {H : Hp} {Q : VK} (h : tF XO (e1 op true fa) σ H Q) : tCB r (tCons (tF XO fa) tNil) σ H Q := by
  obtain ⟨H₀, Hs, ρ, rr, g, e, kk⟩ := h
  refine tF_bind g e kk fun l x v H1 s1 g1 r1 e1 k1 => ?_
  cases hd : op x with
  | none => rw [hd] at e1; cases e1
  | some d =>
    rw [hd] at e1
    exact ho H₀ Hs H1 l x d v Q g1.s0 g1.s1 hd r1 fun z H' s rp => k1.give e1 s rp
theorem x_callB {id : String} {r : List V → Hp → VK → Prop} {op : PyData → Option PyData} (hc : CallR X (.builtin id) r) (ho : CallD r op) (hm : X.mg x = none) (hv : bootBuiltins x = some (.builtin id)) (ha : PE X a (tF XO fa)) (hg : Gl X x) (hn : x ≠ "__name__") (hdb : (x == ("__debug__" : Str)) = false)
    (he : starEach [a] X.env = (false, eval a X.env) :: starEach [] X.env) (hpl : (backTo pos (starEach [] X.env)).any (·.1) = false) : PE X (.Call (.Name x p) [a] [] pos) (tF XO (e1 op true fa)) :=
  PE.imp (pe_callB hc hg hm hv (pa_cons ha pa_nil he) hn hdb he hpl) fun _ _ _ h => call_read ho h
theorem x_callT {T : String} {r : List V → Hp → VK → Prop} {op : PyData → Option PyData} (hc : CallR X (.type T) r) (ho : CallD r op) (hm : X.mg x = none) (hv : bootBuiltins x = some (.type T)) (ha : PE X a (tF XO fa)) (hg : Gl X x) (hn : x ≠ "__name__") (hdb : (x == ("__debug__" : Str)) = false)
    (he : starEach [a] X.env = (false, eval a X.env) :: starEach [] X.env) (hpl : (backTo pos (starEach [] X.env)).any (·.1) = false) : PE X (.Call (.Name x p) [a] [] pos) (tF XO (e1 op true fa)) :=
  PE.imp (pe_callTy hc hg hm hv (pa_cons ha pa_nil he) hn hdb he hpl) fun _ _ _ h => call_read ho h
theorem x_len (C : BC X) (ha : PE X a (tF XO fa)) (hg : Gl X "len" := by rfl) (he : starEach [a] X.env = (false, eval a X.env) :: starEach [] X.env := by exact star_cons rfl) (hpl : (backTo pos (starEach [] X.env)).any (·.1) = false := by exact star_any rfl) : PE X (.Call (.Name "len" p) [a] [] pos) (tF XO (eLen fa)) :=
  x_callB (call_len_seq.or call_len_str) (fun H₀ Hs H l x d v Q s0 s1 e rx q => by
    unfold dLen at e
    split at e
    · cases e
      obtain ⟨p, vs, rfl, hp, rs⟩ := rx
      exact .inl ⟨p, vs, rfl, .inr (.inl hp), q _ H (Same.refl H) (by rw [rs.length]; rfl)⟩
    · cases e
      obtain ⟨p, vs, rfl, hp, rs⟩ := rx
      exact .inl ⟨p, vs, rfl, .inl (.inl hp.rd), q _ H (Same.refl H) (by rw [rs.length]; rfl)⟩
    · split at e
      · rename_i z hz
        cases e
        exact .inr ⟨z, by rw [show v = V.str z from rx], le_big hz, q _ H (Same.refl H) rfl⟩
      · cases e
    · cases e) C.mlen PySem.boot_len ha hg (by decide) (by decide) he hpl
theorem x_inti (C : BC X) (ha : PE X a (tF XO fa)) (hg : Gl X "int" := by rfl) (he : starEach [a] X.env = (false, eval a X.env) :: starEach [] X.env := by exact star_cons rfl) (hpl : (backTo pos (starEach [] X.env)).any (·.1) = false := by exact star_any rfl) : PE X (.Call (.Name "int" p) [a] [] pos) (tF XO (eInt fa)) :=
  x_callT call_int1 (fun H₀ Hs H l x d v Q s0 s1 e rx q => by
    unfold dInt at e
    split at e
    · rename_i i
      cases e
      exact .inl ⟨i, by rw [show v = V.int i from rx], q _ H (Same.refl H) rfl⟩
    · rename_i k
      cases e
      exact .inr ⟨k, by rw [show v = V.bl k from rx], q _ H (Same.refl H) rfl⟩
    · cases e) C.mint PyProof.Rows.boot_int ha hg (by decide) (by decide) he hpl
theorem x_tuple (C : BC X) (ha : PE X a (tF XO fa)) (hg : Gl X "tuple" := by rfl) (he : starEach [a] X.env = (false, eval a X.env) :: starEach [] X.env := by exact star_cons rfl) (hpl : (backTo pos (starEach [] X.env)).any (·.1) = false := by exact star_any rfl) : PE X (.Call (.Name "tuple" p) [a] [] pos) (tF XO (eTuple fa)) :=
  x_callT call_tuple_of (fun H₀ Hs H l x d v Q s0 s1 e rx q => by
    unfold dTuple at e
    split at e
    · split at e
      · rename_i hlf
        cases e
        obtain ⟨p, vs, rfl, hp, rs⟩ := rx
        exact ⟨p, vs, rfl, .inl ⟨.inl hp.rd, fun l hl => q _ _ (same_new hl _) ⟨l, vs, rfl, (.inl upd_same), (rs.nl hlf).same (same_new hl _)⟩⟩⟩
      · cases e
    · split at e
      · rename_i hlf
        cases e
        obtain ⟨p, vs, rfl, hp, rs⟩ := rx
        exact ⟨p, vs, rfl, .inr ⟨.inl hp, q _ H (Same.refl H) ⟨p, vs, rfl, hp, rs.nl hlf⟩⟩⟩
      · cases e
    · cases e) C.mtuple PyProof.Rows.boot_tuple ha hg (by decide) (by decide) he hpl
theorem x_list (C : BC X) (ha : PE X a (tF XO fa)) (hg : Gl X "list" := by rfl) (he : starEach [a] X.env = (false, eval a X.env) :: starEach [] X.env := by exact star_cons rfl) (hpl : (backTo pos (starEach [] X.env)).any (·.1) = false := by exact star_any rfl) : PE X (.Call (.Name "list" p) [a] [] pos) (tF XO (eList fa)) :=
  x_callT call_list_of (fun H₀ Hs H l x d v Q s0 s1 e rx q => by
    unfold dList at e
    split at e
    · split at e
      · rename_i hlf
        cases e
        obtain ⟨p, vs, rfl, hp, rs⟩ := rx
        exact ⟨p, vs, rfl, .inl (.inl hp.rd), fun l hl => q _ _ (same_new hl _) ⟨l, vs, rfl, .inl ⟨⟨rfl, s1.free hl⟩, upd_same⟩, (rs.nl hlf).same (same_new hl _)⟩⟩
      · cases e
    · split at e
      · rename_i hlf
        cases e
        obtain ⟨p, vs, rfl, hp, rs⟩ := rx
        exact ⟨p, vs, rfl, .inr (.inl hp), fun l hl => q _ _ (same_new hl _) ⟨l, vs, rfl, .inl ⟨⟨rfl, s1.free hl⟩, upd_same⟩, (rs.nl hlf).same (same_new hl _)⟩⟩
      · cases e
    · cases e) C.mlist PyProof.Rows.boot_list ha hg (by decide) (by decide) he hpl
/-! ### isinstance(x, T) -/
def tyName : Ty → String
  | .int => "int"
  | .bool => "bool"
  | .str => "str"
  | .tuple => "tuple"
  | .list => "list"
theorem call_isi : CallR X (.builtin "isinstance") (fun xs H Q => ∃ x T t b, xs = [x, .ty T] ∧ TyOf X.K H x t ∧ PySem.W.kitOne X.K t (.type T) = some b ∧ Q (.bl b) H) := by
  intro pins s σ H xs us Q I r h
  obtain ⟨x, T, t, b, rfl, ht, hk, q⟩ := h
  obtain ⟨u, w', rfl, rx, ry⟩ := vals2 r
  cases ry
  exact isinst_ok I rx ht hk fun tk => ⟨.bl b, H, I.tok _, rfl, q⟩
/-- the answers hang on no written part -/
theorem kit_all {K : PySem.W.Frag} : ∀ (t : Ty) (T : String), (T = "NoneType" ∨ T = "bool" ∨ T = "int" ∨ T = "str" ∨ T = "list" ∨ T = "tuple") →
    PySem.W.kitOne K (.type T) (.type (tyName t)) = some (T == tyName t || (T == "bool" && tyName t == "int")) := by
  intro t T h
  rcases h with rfl | rfl | rfl | rfl | rfl | rfl <;> cases t <;> kernel_rfl
end
end KT
set_option Elab.async false
set_option linter.all false
set_option maxRecDepth 100000
namespace KT
open PySem PySem.Spec PyProof.Rows L2
section
variable {X : Cx} {XO : XOT} {a b c e : Expr} {fa fb fc f : FE} {pos p p2 : Pos}
/-! ### isinstance(x, T) -/
theorem ty_of {K : PySem.W.Frag} {P : PP} {H : Hp} (t : Ty) : ∀ {d : PyData} {v : V}, (∀ kvs, d ≠ .dict kvs) → Rep P H d v → ∃ T, TyOf K H v (.type T) ∧ PySem.W.kitOne K (.type T) (.type (tyName t)) = some (isTy t d)
  | .none, _, _, h => by cases (show _ = _ from h); exact ⟨_, .non, by rw [kit_all t _ (.inl rfl)]; cases t <;> rfl⟩
  | .bool _, _, _, h => by cases (show _ = _ from h); exact ⟨_, .bl _, by rw [kit_all t _ (.inr (.inl rfl))]; cases t <;> rfl⟩
  | .int _, _, _, h => by cases (show _ = _ from h); exact ⟨_, .int _, by rw [kit_all t _ (.inr (.inr (.inl rfl)))]; cases t <;> rfl⟩
  | .str _, _, _, h => by cases (show _ = _ from h); exact ⟨_, .str _, by rw [kit_all t _ (.inr (.inr (.inr (.inl rfl))))]; cases t <;> rfl⟩
  | .tuple _, _, _, ⟨_, _, e, h, _⟩ => by subst e; exact ⟨_, .tup h, by rw [kit_all t _ (.inr (.inr (.inr (.inr (.inr rfl)))))]; cases t <;> rfl⟩
  | .list _, _, _, ⟨_, _, e, h, _⟩ => by
    subst e
    rcases h with ⟨_, h⟩ | ⟨_, _, h⟩
    · exact ⟨_, .lst h, by rw [kit_all t _ (.inr (.inr (.inr (.inr (.inl rfl)))))]; cases t <;> rfl⟩
    · exact ⟨_, .frz h, by rw [kit_all t _ (.inr (.inr (.inr (.inr (.inl rfl)))))]; cases t <;> rfl⟩
  | .dict _, _, n, _ => absurd rfl (n _)
theorem x_isi (t : Ty) {x : Str} (C : BC X) (ha : PE X a (tF XO fa)) (hm : X.mg x = none) (hv : bootBuiltins x = some (.type (tyName t))) (hgx : Gl X x) (hnx : x ≠ "__name__") (hdx : (x == ("__debug__" : Str)) = false) (hg : Gl X "isinstance")
    (hs1 : starEach [a, .Name x p2] X.env = (false, eval a X.env) :: starEach [.Name x p2] X.env) (hpl : (backTo pos (starEach [.Name x p2] X.env)).any (·.1) = false) : PE X (.Call (.Name "isinstance" p) [a, .Name x p2] [] pos) (tF XO (eIs t fa)) :=
  PE.imp (pe_callB call_isi hg C.misi PyProof.Rows.boot_isinstance (pa_cons ha (pa_cons (pe_bltn (v := .ty (tyName t)) hgx hm hv rfl hnx hdx) pa_nil rfl) hs1) (by decide) (by decide) hs1 hpl) fun σ H Q ⟨H₀, Hs, ρ, rr, g, e, kk⟩ => by
    refine tF_bind g e kk fun l x v H1 s1 g1 r1 e1 k1 => ?_
    have hn : ∀ kvs, x ≠ .dict kvs := fun kvs z => by subst z; cases e1
    obtain ⟨T, hT, hk⟩ := ty_of (K := X.K) t hn r1
    have hd : dIs t x = some (.bool (isTy t x)) := by cases x <;> first | rfl | exact absurd rfl (hn _)
    rw [hd] at e1
    exact ⟨v, tyName t, _, _, rfl, hT, hk, k1.give e1 (Same.refl _) rfl⟩
theorem x_isint (C : BC X) (ha : PE X a (tF XO fa)) (hgx : Gl X "int" := by rfl) (hg : Gl X "isinstance" := by rfl) (hs1 : starEach [a, .Name "int" p2] X.env = (false, eval a X.env) :: starEach [.Name "int" p2] X.env := by exact star_cons rfl) (hpl : (backTo pos (starEach [.Name "int" p2] X.env)).any (·.1) = false := by exact star_any rfl) :
    PE X (.Call (.Name "isinstance" p) [a, .Name "int" p2] [] pos) (tF XO (eIs .int fa)) := x_isi .int C ha C.mint PyProof.Rows.boot_int hgx (by decide) (by decide) hg hs1 hpl
theorem x_isbool (C : BC X) (ha : PE X a (tF XO fa)) (hgx : Gl X "bool" := by rfl) (hg : Gl X "isinstance" := by rfl) (hs1 : starEach [a, .Name "bool" p2] X.env = (false, eval a X.env) :: starEach [.Name "bool" p2] X.env := by exact star_cons rfl) (hpl : (backTo pos (starEach [.Name "bool" p2] X.env)).any (·.1) = false := by exact star_any rfl) :
    PE X (.Call (.Name "isinstance" p) [a, .Name "bool" p2] [] pos) (tF XO (eIs .bool fa)) := x_isi .bool C ha C.mbool PyProof.Rows.boot_bool hgx (by decide) (by decide) hg hs1 hpl
theorem x_isstr (C : BC X) (ha : PE X a (tF XO fa)) (hgx : Gl X "str" := by rfl) (hg : Gl X "isinstance" := by rfl) (hs1 : starEach [a, .Name "str" p2] X.env = (false, eval a X.env) :: starEach [.Name "str" p2] X.env := by exact star_cons rfl) (hpl : (backTo pos (starEach [.Name "str" p2] X.env)).any (·.1) = false := by exact star_any rfl) :
    PE X (.Call (.Name "isinstance" p) [a, .Name "str" p2] [] pos) (tF XO (eIs .str fa)) := x_isi .str C ha C.mstr PyProof.Rows.boot_str hgx (by decide) (by decide) hg hs1 hpl
theorem x_istuple (C : BC X) (ha : PE X a (tF XO fa)) (hgx : Gl X "tuple" := by rfl) (hg : Gl X "isinstance" := by rfl) (hs1 : starEach [a, .Name "tuple" p2] X.env = (false, eval a X.env) :: starEach [.Name "tuple" p2] X.env := by exact star_cons rfl) (hpl : (backTo pos (starEach [.Name "tuple" p2] X.env)).any (·.1) = false := by exact star_any rfl) :
    PE X (.Call (.Name "isinstance" p) [a, .Name "tuple" p2] [] pos) (tF XO (eIs .tuple fa)) := x_isi .tuple C ha C.mtuple PyProof.Rows.boot_tuple hgx (by decide) (by decide) hg hs1 hpl
theorem x_islist (C : BC X) (ha : PE X a (tF XO fa)) (hgx : Gl X "list" := by rfl) (hg : Gl X "isinstance" := by rfl) (hs1 : starEach [a, .Name "list" p2] X.env = (false, eval a X.env) :: starEach [.Name "list" p2] X.env := by exact star_cons rfl) (hpl : (backTo pos (starEach [.Name "list" p2] X.env)).any (·.1) = false := by exact star_any rfl) :
    PE X (.Call (.Name "isinstance" p) [a, .Name "list" p2] [] pos) (tF XO (eIs .list fa)) := x_isi .list C ha C.mlist PyProof.Rows.boot_list hgx (by decide) (by decide) hg hs1 hpl
end
end KT
set_option Elab.async false
set_option linter.all false
set_option maxRecDepth 100000
namespace KT
open PySem PySem.Spec PyProof.Rows L2
/-! ### errors that pass -/
/-- from heap h to h': an error at ea has been noted in the frames fs; all others stay -/
structure Flown (fs : List Addr) (ea : Addr) (oe : Obj) (h h' : Heap) : Prop where
  keep : ∀ b o, h.get? b = some o → b ≠ ea → b ∉ fs → h'.get? b = some o
  frm : ∀ b o, h.get? b = some o → b ∈ fs → ∃ sl, h'.get? b = some { o with slots := sl }
  ex : ∃ oe' vs T oT ts, h'.get? ea = some oe' ∧ oe'.cls = oe.cls ∧ oe'.dict = oe.dict ∧ oe'.data = .fields vs ∧ vs[1]? = some (.ref T) ∧ h.get? T = none ∧ T ≠ ea ∧ h'.get? T = some oT ∧ oT.data = .fields ts ∧ ts[3]? = some .none
/-- an error's first entry: none yet, or one that stands still -/
def HeadOk (h : Heap) (ea : Addr) (vs : Array Value) : Prop :=
  vs[1]? = some .none ∨ ∃ T oT ts, vs[1]? = some (.ref T) ∧ T ≠ ea ∧ h.get? T = some oT ∧ oT.data = .fields ts ∧ ts[3]? = some .none
theorem dict_mapFields (o : Obj) (f : Array Value → Array Value) : (o.mapFields f).dict = o.dict := by
  obtain ⟨_, _, dt, _⟩ := o
  cases dt <;> rfl
section
variable {M : Model} {A : Around} {E : Value → Shared → Prop} {s : Shared} {base : Heap} {env : Env} {outer : List Env} {L ea : Addr} {oe : Obj} {vs : Array Value} {Q : Unit → Shared → Prop}
theorem fly_entry {hd0 : Value} {nx : Bool} (hfr : A.frames = some (env :: outer)) (ff : s.heap.FunFrames base (env :: outer)) (hf : env.frame = some L) (he : s.heap.get? ea = some oe) (hd : oe.data = .fields vs) (hsz : 1 < vs.size)
    (k : ∀ h', Flown (frs (env :: outer)) ea oe s.heap h' → Q () { s with heap := h' }) :
    wpAny M A (do let fo ← frameOf env; let pl ← entryPlaceOf L nx; let t ← EntryCells.newEntry hd0 fo .none (rawInt L) .none pl; setField (.ref ea) 1 t) (fun _ s' => wpAny M A (setFlight (.ref ea) none) Q E s') E s := by
  have nfr : ea ∉ frs (env :: outer) := fun hm => by
    obtain ⟨_, o, ho, no⟩ := ff.mem hm
    rw [he] at ho
    cases ho
    exact no vs hd
  refine wpAny_bind (wpAny_frameOf_fun hfr ff hf fun g hg => ?_)
  refine wpAny_bind (wpAny_entryPlaceOf fun pl hpl => ?_)
  unfold EntryCells.newEntry newFields
  refine wpAny_bind (wpAny_newObj_type ?_ (hpl.sizeOk5 _ _ _ _ _))
  generalize hob : ({ cls := .type "traceback", dict := none, data := .fields ([hd0, .ref L, .none, rawInt L, .none] ++ (if pl.isEmpty then List.replicate 6 Value.none else pl)).toArray } : Obj) = ob
  have obd : ∃ ts, ob.data = .fields ts ∧ 3 < ts.size := ⟨_, by rw [← hob], by simp only [List.size_toArray, List.length_append, List.length_cons, List.length_nil] <;> omega⟩
  obtain ⟨ts, obd, ob3⟩ := obd
  have eg : g.get? ea = some oe := (hg.2.1 ea nfr).trans he
  have ltE : ea < g.objs.size := Heap.lt_size eg
  have e2 : (g.push ob).get? ea = some oe := Heap.get?_push_of_some ob eg
  refine wpAny_setField e2 hd hsz ?_
  have d3 := Obj.data_mapFields hd (·.setIfInBounds 1 (Value.ref g.objs.size))
  have e3 := Heap.get?_update_self (Obj.mapFields (·.setIfInBounds 1 (Value.ref g.objs.size))) e2 (Obj.isFreed_of_fields d3)
  have neT : g.objs.size ≠ ea := Nat.ne_of_gt ltE
  have obf : ob.isFreed = false := Obj.isFreed_of_fields obd
  have t3 : ((g.push ob).update ea (Obj.mapFields (·.setIfInBounds 1 (Value.ref g.objs.size)))).get? g.objs.size = some ob := by
    rw [Heap.get?_update_other _ _ neT.symm]
    exact Heap.get?_push_size g obf
  unfold setFlight
  refine wpAny_bind (wpAny_field e3 d3 (x := .ref g.objs.size) (by simp [hsz]) ?_)
  rw [if_pos (by simp)]
  refine wpAny_setField t3 obd ob3 (k _ ?_)
  have stay : ∀ b o, b ≠ ea → g.get? b = some o → (((g.push ob).update ea (Obj.mapFields (·.setIfInBounds 1 (Value.ref g.objs.size)))).update g.objs.size (Obj.mapFields (·.setIfInBounds 3 ((none : Option Addr).elim Value.none fun f => rawInt f)))).get? b = some o := fun b o hb q => by
    rw [Heap.get?_update_other _ _ (Nat.ne_of_gt (Heap.lt_size q)), Heap.get?_update_other _ _ hb.symm]
    exact Heap.get?_push_of_some _ q
  refine ⟨fun b o q hb hn => stay b o hb ((hg.2.1 b hn).trans q), fun b o q hb => ?_, ?_⟩
  · obtain ⟨sl, q'⟩ := hg.2.2 b o q
    exact ⟨sl, stay b _ (fun z => nfr (z ▸ hb)) q'⟩
  · refine ⟨_, _, g.objs.size, _, _, (Heap.get?_update_other _ _ neT).trans e3, Obj.cls_mapFields _ _, dict_mapFields _ _, d3, by simp [hsz], ?_, neT, Heap.get?_update_self _ t3 (Obj.isFreed_of_fields (Obj.data_mapFields obd _)), Obj.data_mapFields obd _, by simp [ob3]⟩
    cases q : s.heap.get? g.objs.size with
    | none => rfl
    | some o =>
      have := Heap.lt_size q
      rw [hg.1] at this
      exact absurd this (Nat.lt_irrefl _)
theorem same_flight {h : Heap} {T : Addr} {oT : Obj} {ts : Array Value} (hT : h.get? T = some oT) (hd : oT.data = .fields ts) (h3 : ts[3]? = some .none) : (h.update T (Obj.mapFields (·.setIfInBounds 3 Value.none))).get? T = some oT := by
  have hz : ts.setIfInBounds 3 Value.none = ts := by
    obtain ⟨hlt, hv⟩ := Array.getElem?_eq_some_iff.mp h3
    apply Array.ext
    · simp
    · intro i h1 h2
      by_cases q : 3 = i
      · subst q; simp [hv]
      · rw [Array.getElem_setIfInBounds, if_neg q]
  rw [Heap.get?_update_self _ hT (Obj.isFreed_of_fields (Obj.data_mapFields hd _))]
  obtain ⟨c, d, dt, sl⟩ := oT
  cases hd
  show some ({ cls := c, dict := d, data := .fields (ts.setIfInBounds 3 Value.none), slots := sl } : Obj) = _
  rw [hz]
/-- an error is noted in this frame, and stands still -/
theorem fly (hfr : A.frames = some (env :: outer)) (ff : s.heap.FunFrames base (env :: outer)) (hf : env.frame = some L) (he : s.heap.get? ea = some oe) (hd : oe.data = .fields vs) (hh : HeadOk s.heap ea vs)
    (k : ∀ h', Flown (frs (env :: outer)) ea oe s.heap h' → Q () { s with heap := h' }) :
    wpAny M A (noteFrame (.ref ea) env) (fun _ s' => wpAny M A (setFlight (.ref ea) none) Q E s') E s := by
  unfold noteFrame
  simp only [hf]
  rcases hh with h1 | ⟨T, oT, ts, h1, neT, hT, hdT, h3⟩
  · refine wpAny_bind (wpAny_field he hd h1 ?_)
    rw [if_neg (by decide)]
    exact fly_entry hfr ff hf he hd (Array.getElem?_eq_some_iff.mp h1).1 k
  · refine wpAny_bind (wpAny_field he hd h1 ?_)
    rw [if_pos (by simp)]
    refine wpAny_bind (wpAny_field hT hdT h3 ?_)
    rw [if_neg (by simp [rawInt])]
    refine wpAny_bind (wpAny_setField hT hdT (Array.getElem?_eq_some_iff.mp h3).1 ?_)
    have same : ∀ b o, s.heap.get? b = some o → (s.heap.update T (Obj.mapFields (·.setIfInBounds 3 Value.none))).get? b = some o := fun b o q => by
      by_cases z : b = T
      · subst z
        rw [hT] at q
        cases q
        exact same_flight hT hdT h3
      · rw [Heap.get?_update_other _ _ (Ne.symm z)]; exact q
    have back : ∀ b, (s.heap.update T (Obj.mapFields (·.setIfInBounds 3 Value.none))).get? b = none → s.heap.get? b = none := fun b q => by
      cases z : s.heap.get? b with
      | none => rfl
      | some o => rw [same b o z] at q; cases q
    refine fly_entry hfr (ff.of_keeps fun b o q _ => ⟨o, same b o q, rfl⟩) hf (same _ _ he) hd (Array.getElem?_eq_some_iff.mp h1).1 fun h' fl => k h' ⟨fun b o q => fl.keep b o (same b o q), fun b o q => fl.frm b o (same b o q), ?_⟩
    obtain ⟨oe', ws, T', oT', us, x1, x2, x3, x4, x5, x6, x7⟩ := fl.ex
    exact ⟨oe', ws, T', oT', us, x1, x2, x3, x4, x5, back _ x6, x7⟩
end
end KT
set_option Elab.async false
set_option linter.all false
set_option maxRecDepth 100000
namespace KT
open PySem PySem.Spec PyProof.Rows L2
/-- an error at ea that has passed at least one frame: what its objects are, and that they are new and not tracked -/
def XT (h0 : Heap) (H' : Hp) (ea : Addr) (cls : Value) (h : Heap) : Prop := h0.get? ea = none ∧ H' ea = none ∧
  ∃ oe vs T oT ts, h.get? ea = some oe ∧ oe.cls = cls ∧ oe.dict = none ∧ oe.data = .fields vs ∧ vs[1]? = some (.ref T) ∧ h0.get? T = none ∧ H' T = none ∧ T ≠ ea ∧ h.get? T = some oT ∧ oT.data = .fields ts ∧ ts[3]? = some .none
def CX1 (P : Program) (w : World) : CXT := fun outer H s E e s' => ∃ ea cls H', e = .ref ea ∧ s'.os = s.os ∧ AllBare s'.gens ∧ Un (frs outer) [] H H' s.heap s'.heap ∧ HOk P w H' s'.heap ∧ XT s.heap H' ea cls s'.heap ∧ E cls none H'
theorem Un.narrow {fs fs' ex : List Addr} {H H' : Hp} {h h' : Heap} (u : Un fs ex H H' h h') (hx : ∀ b o, h.get? b = some o → b ∉ ex) (hf : ∀ b o, h.get? b = some o → b ∈ fs → b ∈ fs') : Un fs' [] H H' h h' where
  keep := fun b o q n hb _ => u.keep b o q n (fun z => hb (hf b o q z)) (hx b o q)
  slot := fun b o q n _ _ => u.any q n (hx b o q)
  free := fun b o q n _ => u.free b o q n (hx b o q)
  there := fun b o q _ => u.there b o q (hx b o q)
  tups := u.tups
  frzs := u.frzs
  tbls := u.tbls
/-- frames stand as long as their objects keep their data -/
theorem funFrames_of {h h' base base' : Heap} : ∀ {l : List Env}, h.FunFrames base l → (∀ b ∈ frs l, ∀ o, h.get? b = some o → ∃ sl, h'.get? b = some { o with slots := sl }) → (∀ b ∈ frs l, base'.get? b = none) → h'.FunFrames base' l
  | [], _, _, _ => trivial
  | env :: rest, ⟨hk, ⟨L, o, hf, hn, ho, hd⟩, hr⟩, ks, kb => by
    have hm : L ∈ frs (env :: rest) := by unfold frs; rw [List.filterMap_cons, hf]; exact List.mem_cons_self ..
    have hs : ∀ b, b ∈ frs rest → b ∈ frs (env :: rest) := fun b hb => by unfold frs at hb ⊢; rw [List.filterMap_cons, hf]; exact List.mem_cons_of_mem _ hb
    obtain ⟨sl, e⟩ := ks L hm o ho
    exact ⟨hk, ⟨L, _, hf, kb L hm, e, hd⟩, funFrames_of hr (fun b hb => ks b (hs b hb)) fun b hb => kb b (hs b hb)⟩
theorem hok_of {P : Program} {w : World} {H : Hp} {h h' : Heap} (x : HOk P w H h) (k : ∀ b o u, H b = some u → h.get? b = some o → h'.get? b = some o) : HOk P w H h' := fun a o e =>
  (x a o e).stay (fun b u hb q => by
    rcases hb with rfl | hb
    · exact k b u _ e q
    · exact k b u _ hb q) (fun _ q => q) fun _ _ q => q
theorem obj_ex {P : Program} {w : World} {H : Hp} {h : Heap} {a : Addr} : ∀ {o : HO}, ObjOk P w H h a o → ∃ ob, h.get? a = some ob
  | .lst _, ⟨_, _, _, _, e⟩ => ⟨_, e⟩
  | .tup _, ⟨_, _, _, o, e, _⟩ => ⟨o, e⟩
  | .dK _, ⟨_, _, _, _, o, _, _, e, _⟩ => ⟨o, e⟩
  | .dT _, ⟨_, _, _, _, o, _, _, e, _⟩ => ⟨o, e⟩
  | .dN _, ⟨_, _, _, _, _, o, _, _, e, _⟩ => ⟨o, e⟩
  | .set _ _, ⟨o, _, _, _, e, _⟩ => ⟨o, e⟩
  | .ins _ _ _, ⟨_, _, _, e, _⟩ => ⟨_, e⟩
  | .own _, ⟨o, e⟩ => ⟨o, e⟩
  | .xd _, ⟨_, ⟨_, _, _, e, _⟩, _⟩ => ⟨_, e⟩
  | .rng _ _, ⟨_, _, _, e⟩ => ⟨_, e⟩
  | .frz _ _, ⟨e, _⟩ => ⟨_, e⟩
  | .tbl _, e => ⟨_, e⟩
  | .met _ _, e => ⟨_, e⟩
  | .ext _, ⟨_, ⟨o, e⟩, _⟩ => ⟨o, e⟩
/-- what an error's note leaves of the world -/
theorem flown_un {P : Program} {w : World} {fs : List Addr} {ea : Addr} {oe : Obj} {H₀ H' : Hp} {h₀ h h2 : Heap} (U : Un fs [] H₀ H' h₀ h) (hok : HOk P w H' h) (hfree : ∀ b ∈ fs, H' b = none) (e0 : h₀.get? ea = none) (e1 : H' ea = none)
    (fl : Flown fs ea oe h h2) (hd : oe.dict = none) : Un fs [] H₀ H' h₀ h2 ∧ HOk P w H' h2 ∧ XT h₀ H' ea oe.cls h2 := by
  have U1 : Un fs [ea] H' H' h h2 := by
    refine ⟨fun b o q _ hb hx => fl.keep b o q (fun z => hx (by simp [z])) hb, fun b o q _ hb _ => fl.frm b o q hb, fun _ _ _ z _ => z, fun b o q hx => ?_, fun _ _ z => z, fun _ _ _ z => z, fun _ ps z => ⟨#[], by rw [z]; simp⟩⟩
    by_cases hb : b ∈ fs
    · obtain ⟨sl, z⟩ := fl.frm b o q hb
      exact ⟨_, z⟩
    · exact ⟨o, fl.keep b o q (fun z => hx (by simp [z])) hb⟩
  refine ⟨KT.Un.narrow ((U.mono (fun _ z => z) fun _ z => (nomatch z)).trans U1) (fun b o q hm => ?_) fun _ _ _ z => z, hok_of hok fun b o u hu q => fl.keep b o q (fun z => ?_) fun hm => ?_, e0, e1, ?_⟩
  · have z : b = ea := by simpa using hm
    rw [z, e0] at q
    cases q
  · rw [z, e1] at hu; cases hu
  · rw [hfree b hm] at hu; cases hu
  · obtain ⟨oe', vs, T, oT, ts, x1, x2, x3, x4, x5, x6, x7, x8, x9, x10⟩ := fl.ex
    refine ⟨oe', vs, T, oT, ts, x1, x2, x3.trans hd, x4, x5, ?_, ?_, x7, x8, x9, x10⟩
    · cases q : h₀.get? T with
      | none => rfl
      | some o => obtain ⟨o', z⟩ := U.there T o q (by simp); rw [x6] at z; cases z
    · cases q : H' T with
      | none => rfl
      | some u => obtain ⟨o, z⟩ := obj_ex (hok T u q); rw [x6] at z; cases z
theorem XT.head {h0 : Heap} {H' : Hp} {ea : Addr} {cls : Value} {h : Heap} (x : XT h0 H' ea cls h) : ∃ oe vs, h.get? ea = some oe ∧ oe.cls = cls ∧ oe.dict = none ∧ oe.data = .fields vs ∧ HeadOk h ea vs := by
  obtain ⟨_, _, oe, vs, T, oT, ts, he, hc, hdd, hd, h1, _, _, ne, hT, hdT, h3⟩ := x
  exact ⟨oe, vs, he, hc, hdd, hd, .inr ⟨T, oT, ts, h1, ne, hT, hdT, h3⟩⟩
/-- an error that has come back from a call (or lies new) is noted in this frame -/
theorem fly1 {P : Program} {w : World} {A : Around} {env : Env} {outer : List Env} {L ea : Addr} {cls : Value} {base : Heap} {H₀ H H' : Hp} {s₀ s s' : Shared} {Q : Unit → Shared → Prop} {Ee : Value → Shared → Prop}
    (hfr : A.frames = some (env :: outer)) (hf : env.frame = some L) (ff : s.heap.FunFrames base (env :: outer)) (hfree : ∀ b ∈ frs (env :: outer), H b = none)
    (U : Un (frs (env :: outer)) [] H₀ H s₀.heap s.heap) (un : Un (frs (env :: outer)) [] H H' s.heap s'.heap) (hok : HOk P w H' s'.heap) (xt : XT s.heap H' ea cls s'.heap)
    (k : ∀ h2, Un (frs (env :: outer)) [] H₀ H' s₀.heap h2 → HOk P w H' h2 → XT s₀.heap H' ea cls h2 → Q () { s' with heap := h2 }) :
    wpAny (model P w) A (noteFrame (.ref ea) env) (fun _ s2 => wpAny (model P w) A (setFlight (.ref ea) none) Q Ee s2) Ee s' := by
  obtain ⟨oe, vs, he, hc, hdd, hd, hh⟩ := xt.head
  have slots : ∀ b ∈ frs (env :: outer), ∀ o, s.heap.get? b = some o → ∃ sl, s'.heap.get? b = some { o with slots := sl } := fun b hb o e => un.slot b o e (hfree b hb) hb (by simp)
  have free' : ∀ b ∈ frs (env :: outer), H' b = none := fun b hb => by
    obtain ⟨_, o, e, _⟩ := ff.mem hb
    exact un.free b o e (hfree b hb) (by simp)
  refine fly (base := PySem.W.hideAll s'.heap (frs (env :: outer))) hfr (funFrames_of ff slots fun b hb => PySem.W.hideAll_none _ hb) hf he hd hh fun h2 fl => ?_
  have e0 : s₀.heap.get? ea = none := by
    cases q : s₀.heap.get? ea with
    | none => rfl
    | some o => obtain ⟨o', z⟩ := U.there ea o q (by simp); rw [xt.1] at z; cases z
  obtain ⟨y1, y2, y3⟩ := flown_un (U.trans un) hok free' e0 xt.2.1 fl hdd
  exact k h2 y1 y2 (hc ▸ y3)
theorem outer_un {env : Env} {outer : List Env} {L : Addr} {H H' : Hp} {h h' : Heap} (hf : env.frame = some L) (hL : h.objs.size ≤ L) (U : Un (frs (env :: outer)) [] H H' h h') : Un (frs outer) [] H H' h h' :=
  KT.Un.narrow U (fun _ _ _ z => nomatch z) fun b o q hm => by
    unfold frs at hm
    rw [List.filterMap_cons, hf] at hm
    rcases List.mem_cons.mp hm with z | z
    · subst z; exact absurd (Heap.lt_size q) (Nat.not_lt.mpr hL)
    · exact z
theorem inner_un {env : Env} {outer : List Env} {L : Addr} {H H' : Hp} {h h' : Heap} (hf : env.frame = some L) (U : Un (frs outer) [] H H' h h') : Un (frs (env :: outer)) [] H H' h h' :=
  U.mono (fun b hb => by unfold frs; rw [List.filterMap_cons, hf]; exact List.mem_cons_of_mem _ hb) fun _ z => z
theorem wpAny_leave {P : Program} {w : World} {A : Around} {env : Env} {e : Value} {Q : Unit → Shared → Prop} {Ee : Value → Shared → Prop} {s : Shared} (h : wpAny (model P w) A (noteFrame e env) (fun _ s2 => wpAny (model P w) A (setFlight e none) Q Ee s2) Ee s) :
    wpAny (model P w) A (leaving env e) Q Ee s := by
  unfold leaving
  exact wpAny_bind h
/-- a new error -/
theorem xt_new {P : Program} {w : World} {H : Hp} {h h' : Heap} {ea : Addr} {cls : Value} {args : List Value} (hok : HOk P w H h) (hx : Heap.MadeExcOf h h' ea cls args) : h.get? ea = none ∧ H ea = none ∧ ∃ oe vs, h'.get? ea = some oe ∧ oe.cls = cls ∧ oe.dict = none ∧ oe.data = .fields vs ∧ HeadOk h' ea vs := by
  obtain ⟨t, he, _, _⟩ := hx.there
  refine ⟨hx.new, ?_, _, _, he, rfl, rfl, rfl, .inl rfl⟩
  cases q : H ea with
  | none => rfl
  | some u => obtain ⟨o, e⟩ := obj_ex (hok ea u q); rw [hx.new] at e; cases e
section
variable {CX : CXT} {P : Program} {w : World} {K : PySem.W.Frag} {mg : Str → Option Value} {base : Heap} {N : List Str} {qual : Str} {scope : Scope} {f : Addr} {cd : Value} {A : Around} {outer : List Env} {s : Shared} {H : Hp} {E : XK} {cv : Nat → Value}
theorem own_frame {X : Cx} {pins : List (Addr × Obj)} {σ : L2.St} {H1 : Hp} {s1 : Shared} (I : Inv X pins σ H1 s1) (hs : X.stack = X.env :: X.outer) : X.env.frame = some X.env.locals := by
  rcases I.ok.stk with z | z
  · rw [hs] at z
    have := congrArg List.length z
    simp at this
  · exact z.2
/-- a callee's error passes through a def -/
theorem xlink_cx : XLink (CX1 P w) (cxOf (CX1 P w) P w K mg base N qual scope f cd A outer s H E) ⟨cv, fun c _ H' => E (cv c) none H'⟩ := by
  intro pins σ H1 s1 e s' I hcx
  obtain ⟨ea, cls, H', rfl, os, bare, un, hok, xt, c, rfl, hE⟩ := hcx
  have hf := own_frame I rfl
  exact wpAny_leave (fly1 (H₀ := H) (s₀ := s) I.ok.frames hf I.stack I.stkFree (inner_un hf I.base) un hok xt fun h2 y1 y2 y3 => ⟨ea, cv c, H', rfl, os.trans I.os, bare, outer_un hf I.ok.above y1, y2, y3, hE⟩)
/-- a new error is raised here -/
def RLink (cv : Nat → Value) (X : Cx) (XO : XOF) : Prop := ∀ pins σ H s ea c h' args, Inv X pins σ H s → Heap.MadeExcOf s.heap h' ea (cv c) args → XO c σ H → X.xe (.ref ea) { s with heap := h' }
theorem rlink_cx : RLink cv (cxOf (CX1 P w) P w K mg base N qual scope f cd A outer s H E) (fun c _ H' => E (cv c) none H') := by
  intro pins σ H1 s1 ea c h' args I hx hE
  have hf := own_frame I rfl
  obtain ⟨x1, x2, oe, vs, he, hc, hdd, hd, hh⟩ := xt_new I.hok hx
  have U : Un _ [] H H1 s.heap s1.heap := inner_un hf I.base
  have e0 : s.heap.get? ea = none := by
    cases q : s.heap.get? ea with
    | none => rfl
    | some o => obtain ⟨o', z⟩ := U.there ea o q (by simp); rw [x1] at z; cases z
  refine wpAny_leave (fly (base := PySem.W.hideAll h' (frs _)) I.ok.frames (funFrames_of I.stack (fun b hb o e => ⟨o.slots, hx.keeps b o e⟩) fun b hb => PySem.W.hideAll_none _ hb) hf he hd hh fun h2 fl => ?_)
  obtain ⟨y1, y2, y3⟩ := flown_un (U.trans (Un.kept hx.keeps)) (I.hok.kept hx.keeps) I.stkFree e0 x2 fl hdd
  exact ⟨ea, cv c, H1, rfl, I.os, I.bare, outer_un hf I.ok.above y1, y2, hc ▸ y3, hE⟩
end
/-! ### raise C(text) -/
def vbm : List Value := [.type "ValueError", .type "Exception", .type "BaseException", .type "object"]
/-- an own error class of the text, number c -/
structure ExcF (K : PySem.W.Frag) (mg : Str → Option Value) (cv : Nat → Value) (x : Str) (c : Nat) : Prop where
  ex : ∃ C, cv c = .ref C ∧ mg x = some (.ref C) ∧ PySem.W.excIn K C vbm "ValueError.__new__" = true
section
variable {X : Cx} {XO : XOF} {cv : Cfg} {pos np cpos p1 : Pos} {x m : Str} {c : Nat} {j : Nat}
end
/-! ### a def keeps its promise: its mirror is what its body is worth -/
structure MF (mg : Str → Option Value) : Prop where
  mlen : mg "len" = none
  mint : mg "int" = none
  mbool : mg "bool" = none
  mstr : mg "str" = none
  mtuple : mg "tuple" = none
  mlist : mg "list" = none
  misi : mg "isinstance" = none
  mrange : mg "range" = none
  menum : mg "enumerate" = none
  mzip : mg "zip" = none
  mrev : mg "reversed" = none
/-- what a body's proof is given -/
structure Body (P : Program) (w : World) (cv : Nat → Value) (k : Nat) (X : Cx) (XO : XOF) : Prop where
  C : BC X
  hr : Room k X.A
  L : XLink (CX1 P w) X ⟨cv, XO⟩
  R : RLink cv X XO
  pw : PassesOwn (model X.prog X.w) X.A X.env X.xe
  hc : X.calm = true
  nd : X.N.Nodup
theorem start_sr {cv : Nat → Value} {N ps : List Str} {vs : List V} {ds : List PyData} {H : Hp} (hp : N.take ps.length = ps) (hl : vs.length = ps.length) (r : Reps (fun _ _ => True) H ds vs) :
    SR ⟨cv, N.length, 0⟩ H H (ds.map (fun d => some (.par d)) ++ List.replicate (N.length - ds.length) none) (L2.start N vs) H := by
  have hle : ps.length ≤ N.length := by
    have := congrArg List.length hp
    rw [List.length_take] at this
    omega
  have hd := r.length
  refine ⟨Same.refl H, Same.refl H, ?_, ?_, fun _ => none, fun a i e => (nomatch e), fun a i e => (nomatch e), fun i t e => ?_⟩
  · simp; omega
  · unfold L2.start; simp; omega
  · by_cases hi : i < ds.length
    · rw [List.getElem?_append_left (by simpa using hi)] at e
      rw [List.getElem?_map] at e
      cases hx : ds[i]? with
      | none => rw [hx] at e; cases e
      | some d =>
        rw [hx] at e
        cases e
        obtain ⟨v, hv, rv⟩ := r.get hx
        refine ⟨v, ?_, rv.imp fun _ _ _ => rfl⟩
        unfold L2.start
        rw [List.getElem?_append_left (by simp; omega), List.getElem?_map, hv]
        rfl
    · rw [List.getElem?_append_right (by simp; omega)] at e
      rw [List.getElem?_replicate] at e
      split at e <;> cases e
theorem fun_okD {P : Program} {w : World} {K : PySem.W.Frag} {mg : Str → Option Value} {base : Heap} {cv : Nat → Value} {x qual : Str} {st : Stmt} {f : Addr} {fd : FuncData} {N ps : List Str} {k : Nat} {b : FS} (M : MF mg) (F : Fun K x qual st f fd) (S : FnScope N ps (defScope st))
    (hbody : ∀ (cdv : Value) (A : Around) (outer : List Env) (s : Shared) (H : Hp) (E : XK), Body P w cv k (cxOf (CX1 P w) P w K mg base N qual (defScope st) f cdv A outer s H E) (fun c _ H' => E (cv c) none H') →
      PSs (cxOf (CX1 P w) P w K mg base N qual (defScope st) f cdv A outer s H E) (defBody st) (tS ⟨cv, N.length, 0⟩ (fun c _ H' => E (cv c) none H') b)) :
    FnOk P w K mg base (CX1 P w) (k + 1) f fd ps (spD cv ps.length (runB N.length b)) := by
  obtain ⟨oc, od, kV, doc, pm, an, cdv, ct, osl, rfl, lk, hcd⟩ := F.ex
  refine fn_of lk hcd S (fun vs H Q E h => ?_) fun A outer s H vs Q E hr hsp => ?_
  · obtain ⟨ds, r, hl, _⟩ := h
    exact hl
  obtain ⟨ds, r, hl, rp, hg, hok, hex⟩ := hsp
  refine ⟨tS ⟨cv, N.length, 0⟩ (fun c _ H' => E (cv c) none H') b, hbody cdv A outer s H E ⟨⟨hr.units, M.mlen, M.mint, M.mbool, M.mstr, M.mtuple, M.mlist, M.misi, M.mrange, M.menum, M.mzip, M.mrev⟩, hr, xlink_cx, rlink_cx, PassesOwn.leaving, rfl, S.nd⟩, ?_⟩
  have g := start_sr (cv := cv) S.pre hl rp
  unfold runB at hg
  cases hb : b (ds.map (fun d => some (.par d)) ++ List.replicate (N.length - ds.length) none) with
  | none => rw [hb] at hg; cases hg
  | some y =>
    rw [hb] at hg
    refine ⟨H, H, _, y, g, hb, ?_⟩
    cases y with
    | ret d => cases hg; exact fun v H' s rp => hok d v H' rfl s rp
    | next ρ' => cases hg; exact fun σ' H' g' => hok .none .non H' rfl g'.s1 rfl
    | exc c ρ' => cases hg; exact fun σ' H' g' => hex c H' rfl g'.s1
    | brk ρ' => cases hg
    | cont ρ' => cases hg
    | retL d ds => cases hg
end KT
set_option Elab.async false
set_option linter.all false
set_option maxRecDepth 100000
namespace KT
open PySem PySem.Spec PyProof.Rows L2
/-! ### isinstance of a caught error -/
/-- what the fragment says of an own error class at D -/
structure XCls (K : PySem.W.Frag) (D : Addr) : Prop where
  ga : PySem.W.findIn K (.ref D) "__getattribute__" = some (some (.builtin "BaseException.__getattribute__"))
  gh : PySem.W.findIn K (.ref D) "__getattr__" = some none
  be : PySem.W.mroIn K D (.type "BaseException") = some true
  hd : PySem.W.hasDictIn K D = true
  fc : PySem.W.findIn K (.ref D) "__class__" = some (some (.builtin "object.__class__"))
  sg : PySem.W.specialIn K (.builtin "object.__class__") "__get__" = some (some (.builtin "getset_descriptor.__get__"))
  tk : PySem.W.takesIn K (.builtin "object.__class__") = some true
  mo : PySem.W.mroIn K D (.type "object") = some true
open PySem.W in
open PySem.W in
open PySem.W in
/-- the error classes are there -/
structure XAll (K : PySem.W.Frag) (cv : Nat → Value) : Prop where
  ex : ∀ c, ∃ D, cv c = .ref D ∧ XCls K D
/-- a class's name in an isinstance: the class's value, and which of the own errors are under it -/
structure IsF (K : PySem.W.Frag) (mg : Str → Option Value) (cv : Nat → Value) (x : Str) (sub : Nat → Bool) : Prop where
  all : XAll K cv
  nm : (∃ C, mg x = some (.ref C) ∧ ∀ c, PySem.W.kitOne K (cv c) (.ref C) = some (sub c)) ∨ (∃ T, mg x = none ∧ bootBuiltins x = some (.type T) ∧ ∀ c, PySem.W.kitOne K (cv c) (.type T) = some (sub c))
section
variable {X : Cx} {XO : XOT} {pos p p2 pe : Pos} {x n : Str} {sub : Nat → Bool}
end
end KT
set_option Elab.async false
set_option linter.all false
set_option maxRecDepth 100000
namespace KT
open PySem PySem.Spec PyProof.Rows L2
/-! ### try: .. except C as e: .. -/
/-- the class that a handler names, and which of the own errors it takes -/
structure HanF (K : PySem.W.Frag) (mg : Str → Option Value) (cv : Nat → Value) (x : Str) (sub : Nat → Bool) : Prop where
  nm : ∃ C, mg x = some C ∧ ∀ c, PySem.W.exmOne K (cv c) C = some (sub c)
/-- what a try's body is given -/
structure BodyT (cv : Nat → Value) (k : Nat) (X : Cx) (XO : XOF) : Prop where
  C : BC X
  hr : Room k X.A
  L : XLink (CX1 X.prog X.w) X ⟨cv, XO⟩
  pw : PassesOwn (model X.prog X.w) X.A X.env X.xe
  hc : X.calm = true
  nd : X.N.Nodup
/-- what a handler is given -/
structure BodyH (X : Cx) : Prop where
  C : BC X
  nd : X.N.Nodup
def Cx.tr (X : Cx) (xe : Value → Shared → Prop) (pn : List (Addr × Obj)) : Cx := { X with xe := xe, pn := pn }
def Cx.hn (X : Cx) (e : Value) : Cx := { X with A := X.A.mark (some e), calm := false, xe := fun _ _ => False }
section
variable {X : Cx} {pins : List (Addr × Obj)} {σ : L2.St} {H H' : Hp} {s : Shared} {xe : Value → Shared → Prop}
end
section
variable {X : Cx} {XO : XOF} {cv : Cfg} {body suite : List Stmt} {b0 : Stmt} {a b : FS} {pos hpos np : Pos} {x n : Str} {sub : Nat → Bool} {k : Nat}
end
end KT
set_option Elab.async false
set_option linter.all false
set_option maxRecDepth 100000
namespace KT
open PySem PySem.Spec PyProof.Rows L2
/-- what a comprehension's element is given -/
structure BodyC (cv : Nat → Value) (k : Nat) (X : Cx) : Prop where
  C : BC X
  hr : Room k X.A
  L : XLink (CX1 X.prog X.w) X ⟨cv, fun _ _ _ => False⟩
section
variable {X : Cx} {XO : XOT} {y : Str} {yp pos : Pos} {iter elt : Expr} {scope : Scope} {fi : FI} {f : FE} {ids : List Nat} {fr : List Str} {k : Nat}
end
end KT
set_option Elab.async false
set_option linter.all false
set_option maxRecDepth 100000
namespace KT
open PySem PySem.Spec PyProof.Rows L2
section
variable {X : Cx} {XO : XOT} {y : Str} {yp pos : Pos} {iter elt : Expr} {scope : Scope} {fi : FI} {f : FE} {ids : List Nat} {fr : List Str} {k : Nat}
end
end KT
set_option Elab.async false
set_option linter.all false
set_option maxRecDepth 100000
namespace KT
open PySem PySem.Spec PyProof.Rows L2
/-! ### for i, x in enumerate(xs) -/
/-- pairs of a number and an item of the list at a -/
def Ite (K : PySem.W.Frag) (a : Addr) : It :=
  ⟨fun i H => ∃ xs x, SqL K H a xs ∧ xs[i]? = some x, fun i H x H' => ∃ p v, x = .ref p ∧ H p = none ∧ H' = upd H p (.tup [.int i, v]) ∧ ∀ xs, SqL K H a xs → xs[i]? = some v, fun i H => ∃ xs, SqL K H a xs ∧ xs.length ≤ i⟩
theorem turn_enum {P : Program} {w : World} {K : PySem.W.Frag} {elts : List Expr} {x1} {tpos : Pos} (a e it : Addr) (hne : e ≠ it) : Turn P w K (.Tuple elts x1 tpos) (Ite K a) [e, it] e (fun i h => ∃ old, IsEnum h e it (i : Int) old ∧ h.IsListIter it a i) where
  mem := by simp
  obj := fun i h ⟨old, st, li⟩ b hb => by
    rcases List.mem_cons.mp hb with rfl | hb
    · exact ⟨_, st, fun v z => by
        have z' : Data.fields _ = Data.cell v := z
        cases z'⟩
    · have e : b = it := by simpa using hb
      subst e
      obtain ⟨o, e, c, d⟩ := li
      exact ⟨o, e, fun v z => by rw [d] at z; cases z⟩
  keep := fun i h h' ⟨old, st, li⟩ k => ⟨old, k e (by simp) _ st, li.at fun o q => k it (by simp) o q⟩
  item := by
    intro X hP hw hK hc i pins s σ H E I hf ⟨old, st, li⟩ hg
    subst hP hw hK
    obtain ⟨xs, x, hq, hx⟩ := hg
    obtain ⟨its, rv, p, hz⟩ := I.list hq
    obtain ⟨u, hu, ru⟩ := rv.get hx
    obtain ⟨f0, f1, f2, f3, f4, f5⟩ := hf e (by simp)
    obtain ⟨g0, g1, g2, g3, g4, g5⟩ := hf it (by simp)
    refine wpAny_pyNext_enum_item st li p.isList (x := u) (by simpa using hu) hne fun h1 heo li1 ht1 hz1 hk1 => ⟨_, rfl, ?_⟩
    refine wpAny_letOwnedTupleGo_enum heo fun h2 he2 hs2 => ?_
    replace hs2 : Heap.SameBut e h1 h2 := hs2
    have hel : e < s.heap.objs.size := Heap.lt_size st
    have nP : H s.heap.objs.size = none := I.hok.fresh (Nat.le_refl _)
    have keep2 : ∀ b o, b ≠ e → b ≠ it → s.heap.get? b = some o → h2.get? b = some o := fun b o n1 n2 q => (hs2.2 b n1).trans (hk1 b o n1 n2 q)
    have hp2 : h2.get? s.heap.objs.size = some { cls := .type "tuple", data := .seq #[.int i s.toks, u] } := (hs2.2 _ (Nat.ne_of_gt hel)).trans ht1
    have nm : ∀ b, b ∉ [e, it] → b ≠ e ∧ b ≠ it := fun b hb => ⟨fun z => hb (by simp [z]), fun z => hb (by simp [z])⟩
    have tr : ∀ b o, H b = some o → b ≠ e ∧ b ≠ it := fun b o q => ⟨(fun z => by rw [z, f0] at q; cases q), (fun z => by rw [z, g0] at q; cases q)⟩
    have hok2 : HOk X.prog X.w (upd H s.heap.objs.size (.tup [.int i, x])) h2 := fun b ob q => by
      by_cases z : b = s.heap.objs.size
      · subst z
        rw [upd_same] at q
        cases q
        exact ⟨by show 2 ≤ sizeLine; decide, [.int i s.toks, u], .cons ⟨_, rfl⟩ (.cons ru .nil), _, hp2, rfl, _, rfl⟩
      · rw [upd_ne z] at q
        refine (I.hok b ob q).stay (fun c v hcc r => ?_) (fun c r => by rw [upd_ne (ne_of_none r nP)]; exact r) fun c ys r => by rw [upd_ne (ne_of_none r nP)]; exact r
        rcases hcc with hcc | hcc
        · rw [hcc] at r ⊢
          exact keep2 b v (tr b _ q).1 (tr b _ q).2 r
        · exact keep2 c v (tr c _ hcc).1 (tr c _ hcc).2 r
    have I2 : Inv X pins σ (upd H s.heap.objs.size (.tup [.int i, x])) { s with heap := h2, gens := s.gens, drawn := s.drawn, toks := s.toks + 1 } := by
      refine I.step (ch := [e, it]) (fun b hb => ?_) (fun b o _ _ hb q _ => keep2 b o (nm b hb).1 (nm b hb).2 q) (fun b o _ _ hb q _ => ⟨o.slots, keep2 b o (nm b hb).1 (nm b hb).2 q⟩) (fun b o hb q n => ?_) (fun b o hb q => ⟨o, keep2 b o (nm b hb).1 (nm b hb).2 q⟩)
        (fun b ys q => by rw [upd_ne (ne_of_none q nP)]; exact q) (fun b o y q => by rw [upd_ne (ne_of_none q nP)]; exact q) (fun b ps q => ⟨#[], by rw [upd_ne (ne_of_none q nP), q]; simp⟩) (fun m hm => ?_) hok2 I.bare
      · rcases List.mem_cons.mp hb with rfl | hb
        · exact ⟨f3, f1, f4, f5⟩
        · have z : b = it := by simpa using hb
          subst z
          exact ⟨g3, g1, g4, g5⟩
      · rw [upd_ne (Nat.ne_of_lt (Heap.lt_size q))]; exact n
      · obtain ⟨o, es, ep, ho, r⟩ := hm
        exact ⟨o, es, ep, keep2 _ o (Ne.symm f1) (Ne.symm g1) ho, r⟩
    refine ⟨.ref s.heap.objs.size, _, I2, rfl, ⟨_, x, rfl, nP, rfl, fun ys hy => by rw [I.list_inj hy hq]; exact hx⟩, ⟨u, ?_, ?_⟩, fun b hb => ?_⟩
    · have := he2
      push_cast
      exact this
    · exact li1.at fun o q => (hs2.2 it (Ne.symm hne)).trans q
    · have hn := (hf b hb).1
      have hb2 : b ≠ s.heap.objs.size := fun z => by
        rcases List.mem_cons.mp hb with q | q
        · rw [q] at z; exact absurd hel (by rw [z]; exact Nat.lt_irrefl _)
        · have q : b = it := by simpa using q
          obtain ⟨o, ho, _⟩ := li
          have := Heap.lt_size ho
          rw [← q, z] at this
          exact absurd this (Nat.lt_irrefl _)
      rw [upd_ne hb2]; exact hn
  done := by
    intro X hP hw hK hc i pins s σ H E I hf ⟨old, st, li⟩ hg
    subst hP hw hK
    obtain ⟨xs, hq, hx⟩ := hg
    obtain ⟨its, rv, p, hz⟩ := I.list hq
    obtain ⟨g0, g1, g2, g3, g4, g5⟩ := hf it (by simp)
    have hl := rv.length
    exact wpAny_pyNext_enum_end (I.ok.hd hc) st li p.isList (by simp; omega) fun h' eb => ⟨rfl, I.turned (t' := s.toks) (fun b o hb q => eb b o hb q) g0 g1 g3 g4 g5⟩
  self := fun _ _ _ _ _ ⟨_, st, _⟩ h => wpAny_pyIter_enum st h
section
variable {X : Cx} {XO : XOT} {cv : Cfg} {e : Expr} {f fa fb fc : FE} {st : Stmt} {rest sa sb body : List Stmt} {a b : FS} {pos p tpos : Pos} {tg iter : Expr} {fi : FI} {tf : FT} {elts : List Expr} {k1 : Nat}
def iEnT (K : PySem.W.Frag) (tl : TE) : TI := fun σ H R => tl σ H fun x H1 => ∃ a, x = .ref a ∧ (∃ xs, SqL K H1 a xs) ∧ R (Ite K a) H1
theorem boot_enumerate : bootBuiltins "enumerate" = some (.type "enumerate") := by decide +kernel
theorem pi_enum {l : Expr} {tl : TE} (hg : Gl X "enumerate") (hm : X.mg "enumerate" = none) (hl : PE X l tl) (he : starEach [l] X.env = (false, eval l X.env) :: starEach [] X.env) (hpl : (backTo pos (starEach [] X.env)).any (·.1) = false) :
    PI X (.Tuple elts k1 tpos) (.Call (.Name "enumerate" p) [l] [] pos) (iEnT X.K tl) := by
  intro pins s σ H R I h
  refine wpAny_Call_Name_kw (ld_blt I hg hm boot_enumerate ?_ (by decide) (by decide))
  have hA : tCons tl tNil σ H (fun vs H1 => match vs with
    | [x] => ∃ a, x = .ref a ∧ (∃ xs, SqL X.K H1 a xs) ∧ R (Ite X.K a) H1
    | _ => False) := h
  refine PyProof.Rows.callWith_type1 (thn (pa_cons hl pa_nil he pos pins s σ H _ I hA) fun us s1 ⟨vs, H1, I1, r1, q1⟩ => ?_) he hpl
  match vs, r1, q1 with
  | [x], r1, ⟨a, hx, ⟨xs, hq⟩, hR⟩ =>
    subst hx
    obtain ⟨u, rfl, ru⟩ := vals1 r1
    cases ru
    obtain ⟨its, rv, pl, hz⟩ := I1.list hq
    refine call_enumerate_list pl.isList fun h' he' li' hz' hk' => wpAny_pyIter_enum he' ?_
    have hs : s1.heap.objs.size ≤ s1.heap.objs.size + 1 := Nat.le_succ _
    refine ⟨s1.heap.objs.size + 1, [s1.heap.objs.size + 1, s1.heap.objs.size], _, Ite X.K a, H1, rfl, I1.kept (t' := s1.toks) hk', turn_enum a _ _ (Nat.succ_ne_self _), ⟨_, he', li'⟩, fun b hb => ?_, hR⟩
    rcases List.mem_cons.mp hb with rfl | hb
    · exact I1.fpOk hs (I1.hok.fresh hs)
    · have z : b = s1.heap.objs.size := by simpa using hb
      subst z
      exact I1.fpOk (Nat.le_refl _) (I1.hok.fresh (Nat.le_refl _))
theorem enum_get : ∀ (ds : List PyData) (n i : Nat), (enumFrom n ds)[i]? = (ds[i]?).map fun d => .tuple [.int ((n + i : Nat) : Int), d]
  | [], _, _ => by simp [enumFrom]
  | d :: ds, n, 0 => by simp [enumFrom]
  | d :: ds, n, i + 1 => by
    have := enum_get ds (n + 1) i
    simp only [enumFrom, List.getElem?_cons_succ, this]
    congr 1
    funext x
    rw [show n + 1 + i = n + (i + 1) by omega]
theorem enum_len : ∀ (ds : List PyData) (n : Nat), (enumFrom n ds).length = ds.length
  | [], _ => rfl
  | d :: ds, n => by simp [enumFrom, enum_len ds (n + 1)]
theorem yields_enum {K : PySem.W.Frag} {Z : Hp} {p : Addr} {vs : List V} {ds : List PyData} (hl : Rd Z p (.lst vs)) (r : Reps (fun _ _ => False) Z ds vs) : Yields Z (Ite K p) (enumFrom 0 ds) := fun H2 s i => by
  have hq : SqL K H2 p vs := .inl (Rd.same s hl)
  refine ⟨fun d hd => ?_, fun hi => ⟨vs, hq, by rw [r.length, hi, enum_len]; exact Nat.le_refl _⟩⟩
  rw [enum_get] at hd
  cases hx : ds[i]? with
  | none => rw [hx] at hd; cases hd
  | some x =>
    rw [hx] at hd
    cases hd
    obtain ⟨v, hv, rv⟩ := r.get hx
    refine ⟨⟨vs, v, hq, hv⟩, fun y H3 yl => ?_⟩
    obtain ⟨q, v', rfl, hn, rfl, hv'⟩ := yl
    have := hv' vs hq
    rw [hv] at this
    cases this
    refine ⟨same_new hn _, q, _, rfl, (.inl upd_same), ⟨_, _, rfl, ?_, _, _, rfl, (rv.same s).same (same_new hn _), rfl⟩⟩
    show V.int _ = V.int _
    rw [Nat.zero_add]
theorem i_enum (hm : X.mg "enumerate" = none) (h : PE X e (tF XO f)) (hg : Gl X "enumerate" := by rfl) (he : starEach [e] X.env = (false, eval e X.env) :: starEach [] X.env := by exact star_cons rfl) (hpl : (backTo pos (starEach [] X.env)).any (·.1) = false := by exact star_any rfl) :
    PI X (.Tuple elts k1 tpos) (.Call (.Name "enumerate" p) [e] [] pos) (tI XO (iEnum f)) := PI.imp (pi_enum hg hm h he hpl) fun σ H R ⟨H₀, Hs, ρ, r, g, e, k, kx⟩ => by
  unfold iEnum at e
  split at e
  · rename_i l ds hf
    split at e
    · rename_i hlf
      cases e
      refine ⟨H₀, Hs, ρ, _, g, hf, ⟨fun l' d' v H1 e' s1 r1 => ?_, fun c H' e => (nomatch e)⟩⟩
      cases e'
      obtain ⟨p, vs, rfl, rl, rs⟩ := r1
      exact ⟨p, rfl, ⟨vs, .inl rl.rd⟩, k l _ (Ite X.K p) H1 rfl s1 fun Z hT hL => yields_enum (hL p vs rl) (Reps.free hT ds vs hlf rs)⟩
    · cases e
  · rename_i c hf
    cases e
    exact ⟨H₀, Hs, ρ, _, g, hf, ⟨fun l' d' v H1 e' s1 r1 => (nomatch e'), fun c' H' e' s => kx c' H' (by cases e'; rfl) s⟩⟩
  · cases e
end
end KT
set_option Elab.async false
set_option linter.all false
set_option maxRecDepth 100000
namespace KT
open PySem PySem.Spec PyProof.Rows L2
section
variable {X : Cx} {XO : XOF} {cv : Cfg} {e : Expr} {f fa fb fc : FE} {st : Stmt} {rest sa sb body : List Stmt} {a b : FS} {pos p tpos : Pos} {tg iter : Expr} {fi : FI} {tf : FT} {elts : List Expr} {k1 : Nat}
/-! ### for a, b in .. -/
theorem g_pair (i j : Nat) {x y : Str} {xp yp : Pos} (hc : X.calm = true) (hN : X.N.Nodup) (hi : X.N[i]? = some x := by rfl) (hx : Loc X.env.scope x := by first | exact Or.inl rfl | exact Or.inr rfl)
    (hf : X.fn x = true ∨ X.env.scope.names.lookup x = some .local := by first | exact .inl rfl | exact .inr rfl | assumption) (hin : Nat.blt i cv.n = true := by rfl)
    (hj : X.N[j]? = some y := by rfl) (hy : Loc X.env.scope y := by first | exact Or.inl rfl | exact Or.inr rfl)
    (hfy : X.fn y = true ∨ X.env.scope.names.lookup y = some .local := by first | exact .inl rfl | exact .inr rfl | assumption) (hjn : Nat.blt j cv.n = true := by rfl) : Tg X cv (.Tuple [.Name x xp, .Name y yp] k1 pos) (tgPair i j) :=
  ⟨gTup X.K 2 (gCons (gName i) (gCons (gName j) gNil)), pg_tup hc (pgs_cons (pg_name hN hi hx hf) (pgs_cons (pg_name hN hj hy hfy) pgs_nil)), fun H₀ F ρ ρ1 σ H d x Q s r e q => by
    unfold tgPair at e
    split at e
    · cases e
      obtain ⟨p, vs, rfl, hp, rs⟩ := r
      obtain ⟨v1, vr, rfl, r1, rs⟩ := rs
      obtain ⟨v2, vr, rfl, r2, rs⟩ := rs
      have rs : vr = [] := rs
      subst rs
      exact ⟨p, _, rfl, .inl hp, rfl, v1, _, rfl, v2, _, rfl, rfl, q _ ((s.putLoc hin r1).putLoc hjn r2)⟩
    · cases e⟩
theorem SO.drop {H₀ F H : Hp} {ρ : Rho} {σ : L2.St} {O : Own} {i : Nat} {xs : List PyData} (g : SR cv H₀ F ρ σ H) (o : SO cv H₀ F ρ σ H O) (hρ : ρ[i]? = some (some (.own xs))) :
    ∃ p vs O', SR cv H₀ F (ρ.set i (some (.loc (.list xs)))) σ H ∧ SO cv H₀ F (ρ.set i (some (.loc (.list xs)))) σ H O' ∧ σ[i]? = some (some (.ref p)) ∧ O' p = none ∧ H p = some (.lst vs) ∧ Reps (fun _ _ => False) H xs vs ∧ ∀ a j, O' a = some j → O a = some j := by
  obtain ⟨p, vs, hσ, hO, hp', rs⟩ := o.sl i _ hρ
  have hρl : i < ρ.length := (List.getElem?_eq_some_iff.mp hρ).1
  have o2 : SO cv H₀ F (ρ.set i (some (.loc (.list xs)))) σ H (fun a => if a = p then none else O a) := by
    refine ⟨fun a j q => ?_, fun a j q => ?_, fun j t q => ?_⟩
    · by_cases z : a = p
      · rw [if_pos z] at q; cases q
      · rw [if_neg z] at q; exact o.fr a j q
    · by_cases z : a = p
      · rw [if_pos z] at q; cases q
      · rw [if_neg z] at q; exact o.ls a j q
    · by_cases hij : i = j
      · subst hij
        rw [set_get _ _ _ _ hρl, if_pos rfl] at q
        cases q
        exact ⟨.ref p, hσ, p, vs, rfl, .inl ⟨⟨rfl, if_pos rfl, g.s0.free (o.fr p i hO)⟩, hp'⟩, rs.imp fun _ _ z => z.elim⟩
      · rw [set_get _ _ _ _ hρl, if_neg hij] at q
        have h := o.sl j t q
        have hn : ∀ a, O a = none → (if a = p then none else O a) = none := fun a q => by
          by_cases z : a = p
          · rw [if_pos z]
          · rw [if_neg z]; exact q
        cases t with
        | par d => obtain ⟨w, e1, rr⟩ := h; exact ⟨w, e1, rr.imp fun _ a z => hn a z⟩
        | loc d => obtain ⟨w, e1, rr⟩ := h; exact ⟨w, e1, rr.imp fun _ a z => ⟨z.1, hn a z.2.1, z.2.2⟩⟩
        | own ds =>
          obtain ⟨q1, ws, e1, hq, hqp, rs'⟩ := h
          have hne : q1 ≠ p := fun z => by rw [z, hO] at hq; cases hq; exact hij rfl
          exact ⟨q1, ws, e1, (if_neg hne).trans hq, hqp, rs'⟩
        | own2 ds =>
          obtain ⟨q1, ws, e1, hq, hqp, rs'⟩ := h
          have hne : q1 ≠ p := fun z => by rw [z, hO] at hq; cases hq; exact hij rfl
          exact ⟨q1, ws, e1, (if_neg hne).trans hq, hqp, rs'.imp fun _ a z => ⟨z.1, hn a z.2.1, z.2.2⟩⟩
        | lent ds =>
          obtain ⟨ws, e1, hq, hqp, rs'⟩ := h
          have hne : cv.lend ≠ p := fun z => by rw [z, hO] at hq; cases hq; exact hij rfl
          exact ⟨ws, e1, (if_neg hne).trans hq, hqp, rs'⟩
        | dct ks =>
          obtain ⟨q1, e1, hq, hd⟩ := h
          have hne : q1 ≠ p := fun z => by rw [z, hO] at hq; cases hq; exact hij rfl
          exact ⟨q1, e1, (if_neg hne).trans hq, hd⟩
        | ex c => exact h
  refine ⟨p, vs, _, ⟨g.s0, g.s1, by simp [g.len], g.ln, _, o2⟩, o2, hσ, if_pos rfl, hp', rs, fun a j q => ?_⟩
  by_cases z : a = p
  · rw [if_pos z] at q; cases q
  · rw [if_neg z] at q; exact q
end
/-! ### list(range(n)) -/
section
variable {X : Cx} {XO : XOT} {e : Expr} {fa : FE} {pos p p2 p3 : Pos}
end
end KT
set_option Elab.async false
set_option linter.all false
set_option maxRecDepth 100000
namespace KT
open PySem PySem.Spec PyProof.Rows L2
section
variable {X : Cx} {XO : XOT} {pos pos' p1 p2 apos cpos : Pos} {ks : List (Option Expr)} {vs : List Expr} {kvs : List (Str × PyData)} {a b i e : Expr} {f fx : FE} {j1 j2 : Nat}
end
end KT
set_option Elab.async false
set_option linter.all false
set_option maxRecDepth 100000
namespace KT
open PySem PyProof.Rows
section
open PySem.SeqAt
open PySem.AutoSeq1 (wpAny_loadPart')
open PySem.MeetsSeq PySem.MeetsSeq2 PySem.MeetsSeq3
end
section
variable {prog : Program} {w : World} {A : Around} {E : Value → Shared → Prop} {s : Shared}
end
open PySem.Spec L2
section
variable {X : Cx} {XO : XOT} {a b : Expr} {fa fb : FE} {pos : Pos}
end
end KT
set_option Elab.async false
set_option linter.all false
set_option maxRecDepth 100000
namespace KT
open PySem PySem.Spec PyProof.Rows L2
structure Zp (z TI TO i1 i2 : Addr) : Prop where
  TIz : TI ≠ z
  TOz : TO ≠ z
  i1z : i1 ≠ z
  i2z : i2 ≠ z
  TITO : TI ≠ TO
  TIi1 : TI ≠ i1
  TIi2 : TI ≠ i2
  TOi1 : TO ≠ i1
  TOi2 : TO ≠ i2
  i12 : i1 ≠ i2
theorem zp (n : Nat) : Zp (n + 4) (n + 2) (n + 3) n (n + 1) :=
  ⟨(by omega : (n + 2 : Nat) ≠ n + 4), (by omega : (n + 3 : Nat) ≠ n + 4), (by omega : (n : Nat) ≠ n + 4), (by omega : (n + 1 : Nat) ≠ n + 4), (by omega : (n + 2 : Nat) ≠ n + 3), (by omega : (n + 2 : Nat) ≠ n), (by omega : (n + 2 : Nat) ≠ n + 1), (by omega : (n + 3 : Nat) ≠ n), (by omega : (n + 3 : Nat) ≠ n + 1), (by omega : (n : Nat) ≠ n + 1)⟩
def ZSt (a b z TI TO i1 i2 : Addr) (i : Nat) (h : Heap) : Prop := IsZip h z TI TO .none ∧ IsPair h TI (.ref i1) (.ref i2) ∧ (∃ u v, IsPair h TO u v) ∧ h.IsListIter i1 a i ∧ h.IsListIter i2 b i
theorem apart {a b z TI TO i1 i2 : Addr} {i : Nat} {h : Heap} {xs ys : Array Value} (D : Zp z TI TO i1 i2) (st : ZSt a b z TI TO i1 i2 i h) (la : h.IsList a xs) (lb : h.IsList b ys) : ZipApart z TI TO i1 i2 a b := by
  obtain ⟨hz, hTI, ⟨u, v, hTO⟩, ⟨o1, e1, c1, _⟩, ⟨o2, e2, c2, _⟩⟩ := st
  have ne : ∀ (l : Addr) (zs : Array Value), h.IsList l zs → l ≠ z ∧ l ≠ TO ∧ l ≠ i1 ∧ l ≠ i2 := fun l zs ⟨o, e, c, _⟩ => by
    refine ⟨fun q => ?_, fun q => ?_, fun q => ?_, fun q => ?_⟩
    · subst q; rw [hz] at e; cases e; simp at c
    · subst q; rw [hTO] at e; cases e; simp at c
    · subst q; rw [e1] at e; cases e; rw [c1] at c; simp at c
    · subst q; rw [e2] at e; cases e; rw [c2] at c; simp at c
  obtain ⟨a1, a2, a3, a4⟩ := ne a xs la
  obtain ⟨b1, b2, b3, b4⟩ := ne b ys lb
  exact ⟨D.TIz, D.TOz, D.i1z, D.i2z, D.TITO, D.TIi1, D.TIi2, D.TOi1, D.TOi2, D.i12, a1, a2, a3, a4, b1, b2, b3, b4⟩
section
variable {X : Cx} {cv : Cfg} {XO : XOF} {e : Expr} {f fa fb fc : FE} {st : Stmt} {rest sa sb body : List Stmt} {b : FS} {pos p tpos : Pos} {tf : FT} {elts : List Expr} {k1 : Nat}
end
/-! ### xs < ys of rows, x is not True -/
theorem lexL_eq : ∀ xs ys : List Int, lexL xs ys = HT.lexLt xs ys
  | [], [] => rfl
  | [], _ :: _ => rfl
  | _ :: _, [] => rfl
  | x :: xs, y :: ys => by rw [HT.lexLt_cons, ← lexL_eq xs ys]; rfl
theorem reps_intsOf {P : PP} {H : Hp} : ∀ {ds : List PyData} {ns : List Int} {vs : List V}, intsOf ds = some ns → Reps P H ds vs → vs = ns.map V.int
  | [], ns, vs, e, r => by cases e; exact r
  | d :: ds, ns, vs, e, r => by
    unfold intsOf at e
    split at e
    · rename_i h; cases h
    · rename_i i ds' hh
      cases hh
      cases hx : intsOf ds with
      | none => rw [hx] at e; cases e
      | some ms =>
        rw [hx] at e
        cases e
        obtain ⟨v, ws, rfl, rv, rs⟩ := r
        rw [reps_intsOf hx rs, show v = V.int i from rv]
        rfl
    · cases e
section
variable {X : Cx} {XO : XOT} {a b : Expr} {fa fb : FE} {pos : Pos}
end
end KT
set_option Elab.async false
set_option linter.all false
set_option maxRecDepth 100000
namespace KT
open PySem PySem.Spec PyProof.Rows
/-! ### list(reversed(t)) of a tuple -/
theorem owner_rev : Manifest.owners.lookup (String.ofList ['d', 'e', 's', 'r', 'e', 'v', 'e', 'r'].reverse) = some Manifest.sig_reversed := by kernel_rfl
theorem slot_rev_next : PySem.Slot "reversed" "__next__" "reversed.__next__" :=
  .of (owner := "reversed") (n := "__next__") (by rw [typeLookup_type, builtinLookup_eq_fast]; kernel_rfl) (by decide +kernel) (by decide +kernel) (by decide +kernel)
    (by first | exact .inl (by decide +kernel) | exact .inr (by decide +kernel)) (by rw [isSubtype_type]; kernel_rfl)
theorem entry_rev_next : entryFor table "reversed.__next__" = some Builtin.«reversed.__next__» := entryFor_of_tree (by kernel_rfl)
theorem args_rev_next_1 (a : Value) : argsOk "reversed.__next__" ⟨[a], []⟩ := by
  unfold argsOk; rw [signature?_of (id := "reversed.__next__") (n := ['_', '_', 't', 'x', 'e', 'n', '_', '_']) (o := ['d', 'e', 's', 'r', 'e', 'v', 'e', 'r']) (by kernel_rfl) owner_rev]; kernel_rfl
theorem slot_rev_iter : PySem.Slot "reversed" "__iter__" "reversed.__iter__" :=
  .of (owner := "reversed") (n := "__iter__") (by rw [typeLookup_type, builtinLookup_eq_fast]; kernel_rfl) (by decide +kernel) (by decide +kernel) (by decide +kernel)
    (by first | exact .inl (by decide +kernel) | exact .inr (by decide +kernel)) (by rw [isSubtype_type]; kernel_rfl)
theorem args_rev_iter_1 (a : Value) : argsOk "reversed.__iter__" ⟨[a], []⟩ := by
  unfold argsOk; rw [signature?_of (id := "reversed.__iter__") (n := ['_', '_', 'r', 'e', 't', 'i', '_', '_']) (o := ['d', 'e', 's', 'r', 'e', 'v', 'e', 'r']) (by kernel_rfl) owner_rev]; kernel_rfl
theorem entry_rev_iter : entryFor table "reversed.__iter__" = some Builtin.«dict_keyiterator.__iter__» :=
  entryFor_alias (id' := "dict_keyiterator.__iter__") (by kernel_rfl) (by first | rfl | decide +kernel | (unfold String.splitOn; simp +decide [String.splitOnAux])) (by decide +kernel) (by kernel_rfl)
theorem slot_rev_hint : PySem.Slot "reversed" "__length_hint__" "reversed.__length_hint__" :=
  .of (owner := "reversed") (n := "__length_hint__") (by rw [typeLookup_type, builtinLookup_eq_fast]; kernel_rfl) (by decide +kernel) (by decide +kernel) (by decide +kernel)
    (by first | exact .inl (by decide +kernel) | exact .inr (by decide +kernel)) (by rw [isSubtype_type]; kernel_rfl)
theorem entry_rev_hint : entryFor table "reversed.__length_hint__" = some Builtin.«reversed.__length_hint__» := entryFor_of_tree (by kernel_rfl)
theorem args_rev_hint_1 (a : Value) : argsOk "reversed.__length_hint__" ⟨[a], []⟩ := by
  unfold argsOk; rw [signature?_of (id := "reversed.__length_hint__") (n := ['_', '_', 't', 'n', 'i', 'h', '_', 'h', 't', 'g', 'n', 'e', 'l', '_', '_']) (o := ['d', 'e', 's', 'r', 'e', 'v', 'e', 'r']) (by kernel_rfl) owner_rev]; kernel_rfl
theorem tup_no_rev : typeLookup (.type "tuple") "__reversed__" = pure none := by rw [typeLookup_type, builtinLookup_eq_fast]; kernel_rfl
theorem rev_no_len : typeLookup (.type "reversed") "__len__" = pure none := by rw [typeLookup_type, builtinLookup_eq_fast]; kernel_rfl
theorem called_rev : TypeCalled "reversed" "reversed.__new__" "object.__init__" :=
  ⟨by decide +kernel, by decide +kernel, ⟨_, _, F.mro_reversed⟩, madeBy_type F.mro_reversed F.lookup_reversed_new (by decide +kernel), by decide +kernel, F.sub_reversed_self, by
    exact .of (owner := "object") (n := "__init__") (by rw [typeLookup_type, builtinLookup_eq_fast]; kernel_rfl) (by decide +kernel) (by decide +kernel) (by decide +kernel) (by first | exact .inl (by decide +kernel) | exact .inr (by decide +kernel)) (by rw [isSubtype_type]; kernel_rfl)⟩
end KT
set_option Elab.async false
set_option linter.all false
set_option maxRecDepth 100000
namespace KT
open PySem PySem.Spec PyProof.Rows
theorem tupAt {h h' : Heap} {t : Addr} {items : Array Value} (x : IsTup h t items) (e : ∀ o, h.get? t = some o → h'.get? t = some o) : IsTup h' t items := let ⟨o, ho, r⟩ := x; ⟨o, e _ ho, r⟩
def revT (t : Addr) (i : Int) : Obj := { cls := .type "reversed", data := .fields #[.ref t, rawInt i] }
theorem sub_tup_dict : isSubtype (.type "tuple") (.type "dict") = pure false := by rw [isSubtype_type]; kernel_rfl
section
variable {prog : Program} {w : World} {A : Around} {E : Value → Shared → Prop} {s : Shared}
theorem rev_new_wp {t : Addr} {items : Array Value} {Q : Fin → Shared → Prop} (ht : IsTup s.heap t items) (hfit : (items.size : Int) < 2 ^ 63)
    (h : Q (.done (.ret (.ref s.heap.objs.size))) { s with heap := s.heap.push (revT t ((items.size : Int) - 1)), toks := s.toks + 1 + 1 }) :
    wpAny (model prog w) A (Builtin.«reversed.__new__» ⟨[.type "reversed", .ref t], []⟩) Q E s := by
  have hT : s.TypeIs (.ref t) "tuple" := ht.typeIs
  unfold Builtin.«reversed.__new__»
  refine wpAny_bind (wpAny_of_eq (newClass_reversed _) ?_)
  try dsimp only
  refine wpAny_bind (wpAny_of_eq (a := ()) (by first | rfl | kernel_rfl) ?_)
  refine wpAny_bind (wpAny_of_eq (a := ()) (by first | rfl | kernel_rfl) ?_)
  try dsimp only
  refine wpAny_bind (wpAny_specialOf hT tup_no_rev ?_)
  try dsimp only
  refine wpAny_bind ?_
  try wp_delta
  refine wpAny_bind (wpAny_isInstance (T := "tuple") (b := false) hT sub_tup_dict ?_)
  refine wpAny_ite_split (fun hab => absurd hab (by decide)) (fun _ => ?_)
  refine wpAny_bind (wpAny_specialOf hT PySem.F.slot_tuple_getitem.lookup ?_)
  refine wpAny_ite_split (fun _ => wpAny_pure ?_) (fun hab => absurd (by decide +kernel) hab)
  refine wpAny_ite_split (fun hab => absurd hab (by decide)) (fun _ => ?_)
  refine wpAny_bind (PyProof.Rows.len_tuple ht hfit ?_)
  refine wpAny_bind (m := asInt? _) (wpAny_pure ?_)
  try dsimp only
  refine wpAny_bind ?_
  unfold Builtin.SmallTypes.newRecord
  try dsimp only
  exact wpAny_newObj_type (wpAny_pure h)
theorem args_obj_init_2 (a b : Value) : argsOk "object.__init__" ⟨[a, b], []⟩ := F.args_object_init_2 a b
theorem call_rev_tup {t : Addr} {items : Array Value} {Q : Value → Shared → Prop} (ht : IsTup s.heap t items) (hfit : (items.size : Int) < 2 ^ 63)
    (h : Q (.ref s.heap.objs.size) { s with heap := s.heap.push (revT t ((items.size : Int) - 1)), toks := s.toks + 1 + 1 }) :
    wpAny (model prog w) A (call (.type "reversed") [.ref t]) Q E s := by
  refine callType_new (S := fun _ R s => IsTup s.heap t items ∧ R (.ok (.ret (.ref s.heap.objs.size))) { s with heap := s.heap.push (revT t ((items.size : Int) - 1)), toks := s.toks + 1 + 1 }) called_rev (by decide) (F.typeCall_reversed_1 _) (F.newCall_reversed_1 _) (fun obj => args_obj_init_2 obj _) F.entry_reversed_new
    (.of_wp fun prog w A R s ⟨h1, h2⟩ => rev_new_wp h1 hfit ⟨_, rfl, h2⟩) ⟨ht, ⟨_, Heap.get?_push_size _ rfl, rfl⟩, h⟩
def IsRevT (h : Heap) (a t : Addr) (i : Int) : Prop := ∃ o, h.get? a = some o ∧ o.cls = .type "reversed" ∧ o.data = .fields #[.ref t, rawInt i]
theorem IsRevT.typeIs {a t : Addr} {i : Int} (x : IsRevT s.heap a t i) : s.TypeIs (.ref a) "reversed" := let ⟨o, ho, hc, _⟩ := x; ⟨o, ho, hc⟩
theorem IsRevT.at {h h' : Heap} {a l : Addr} {i : Int} (x : IsRevT h a l i) (e : ∀ o, h.get? a = some o → h'.get? a = some o) : IsRevT h' a l i := let ⟨o, ho, r⟩ := x; ⟨o, e _ ho, r⟩
theorem rev_next_item {it t : Addr} {i : Nat} {items : Array Value} {x : Value} {Q : Option Value → Shared → Prop} (hit : IsRevT s.heap it t (i : Int)) (hl : IsTup s.heap t items) (hx : items[i]? = some x) (hne : t ≠ it) (hfit : (items.size : Int) < 2 ^ 63)
    (hQ : ∀ h' tk, IsRevT h' it t ((i : Int) - 1) → Heap.SameBut it s.heap h' → Q (some x) { s with heap := h', toks := tk }) : wpAny (model prog w) A (pyNext (.ref it)) Q E s := by
  obtain ⟨o, ho, hc, hd⟩ := id hit
  have hil : i < items.size := (Array.getElem?_eq_some_iff.mp hx).1
  unfold pyNext
  refine wpAny_bind (wpAny_attempt (wpAny_callSpecial?_slot (name := Str.ofString "__next__") hit.typeIs slot_rev_next
    (wpAny_call_entry slot_rev_next hit.typeIs entry_rev_next ?_ (args_rev_next_1 _))))
  unfold Builtin.«reversed.__next__»
  refine wpAny_bind (wpAny_of_eq (a := (Value.ref it, [])) rfl ?_)
  try dsimp only
  refine wpAny_bind (wpAny_field ho hd (x := .ref t) rfl ?_)
  refine wpAny_bind (wpAny_field ho hd (x := rawInt (i : Int)) rfl ?_)
  show wpAny _ _ (if (i : Int) < 0 then _ else _) _ _ s
  rw [if_neg (by omega)]
  refine wpAny_bind (wpAny_specialOf hl.typeIs PySem.F.slot_tuple_getitem.lookup ?_)
  refine wpAny_ite_split (fun hab => absurd hab (by decide)) (fun _ => ?_)
  refine wpAny_bind (wpAny_mkInt ?_)
  refine wpAny_bind (wpAny_attempt (PyProof.Rows.getItem_tuple hl (by omega) (by omega) (j := i) (by have := seqIndex_of (k := (i : Int)) (n := items.size) (by omega) (by omega); simpa using this) hx ?_))
  try dsimp only
  refine wpAny_bind (wpAny_field ho hd (x := rawInt (i : Int)) rfl ?_)
  try dsimp only
  show wpAny _ _ (setField (.ref it) 1 (rawInt ((i : Int) - 1)) >>= fun _ => ret x) _ _ _
  refine wpAny_bind (wpAny_setField ho hd (by simp) ?_)
  refine wpAny_pure ⟨x, rfl, wpAny_pure (hQ _ _ ?_ (Heap.SameBut.update ..))⟩
  exact ⟨_, Heap.get?_update_self _ ho (Obj.isFreed_of_fields (Obj.data_mapFields hd _)), (Obj.cls_mapFields ..).trans hc, by
    rw [Obj.data_mapFields hd]; simp⟩
theorem rev_next_end {it t : Addr} {Q : Option Value → Shared → Prop} (hh : A.handled = none) (hit : IsRevT s.heap it t (-1))
    (hQ : ∀ h', Heap.ExtBut it s.heap h' → Q none { s with heap := h' }) : wpAny (model prog w) A (pyNext (.ref it)) Q E s := by
  obtain ⟨o, ho, hc, hd⟩ := id hit
  unfold pyNext
  refine wpAny_bind (wpAny_attempt (wpAny_callSpecial?_slot (name := Str.ofString "__next__") hit.typeIs slot_rev_next
    (wpAny_call_entry slot_rev_next hit.typeIs entry_rev_next ?_ (args_rev_next_1 _))))
  unfold Builtin.«reversed.__next__»
  refine wpAny_bind (wpAny_of_eq (a := (Value.ref it, [])) rfl ?_)
  try dsimp only
  refine wpAny_bind (wpAny_field ho hd (x := .ref t) rfl ?_)
  refine wpAny_bind (wpAny_field ho hd (x := rawInt (-1)) rfl ?_)
  show wpAny _ _ (if (-1 : Int) < 0 then _ else _) _ _ s
  rw [if_pos (by decide)]
  refine wpAny_bind (wpAny_rule ?_)
  refine wpAny_bind ?_
  try wp_delta
  have ho1 := Heap.get?_update_self (Obj.mapFields (·.setIfInBounds 1 (rawInt (-1)))) ho (Obj.isFreed_of_fields (Obj.data_mapFields hd _))
  refine wpAny_bind (wpAny_setField ho hd (by simp) ?_)
  refine wpAny_setField ho1 (Obj.data_mapFields hd _) (by simp) ?_
  refine wpAny_bind ?_
  unfold Builtin.SmallTypes.stopIteration
  refine wpAny_bind ?_
  simp only [newExc, newTuple]
  refine wpAny_bind (wpAny_newObj_type ?_ (by size_fits))
  refine wpAny_bind (m := firstArgMember _ _) (wpAny_of_eq (a := Value.none) (by first | rfl | (simp only [firstArgMember]; rfl)) ?_)
  refine wpAny_newObj_type ?_ (by size_fits)
  simp only [raiseNew]
  refine wpAny_bind (wpAny_handled ?_)
  first | rw [show A.in1.handled = none from hh] | rw [hh]
  refine wpAny_bind (wpAny_pure (wpAny_throw ?_))
  refine wpAny_bind (wpAny_isInstance (T := "StopIteration") (b := true) ⟨_, Heap.get?_push_size _ rfl, rfl⟩ isSubtype_stop ?_)
  exact wpAny_pure (hQ _ fun b o hb e => Heap.get?_push_of_some _ (Heap.get?_push_of_some _ ((Heap.get?_update_other _ _ (Ne.symm hb)).trans ((Heap.get?_update_other _ _ (Ne.symm hb)).trans e))))
theorem rev_iter {it t : Addr} {i : Int} {Q : Value → Shared → Prop} (hit : IsRevT s.heap it t i) (h : Q (.ref it) s) : wpAny (model prog w) A (pyIter (.ref it)) Q E s := by
  refine wpAny_pyIter_slot hit.typeIs slot_rev_iter (wpAny_call_entry slot_rev_iter hit.typeIs entry_rev_iter ?_ (args_rev_iter_1 _))
  show wpAny _ _ (ret (.ref it)) _ _ s
  exact wpAny_pure ⟨_, rfl, "reversed", _, hit.typeIs, slot_rev_next.lookup, h⟩
theorem rev_hint {it t : Addr} {items : Array Value} {Q : Bool → Shared → Prop} (hit : IsRevT s.heap it t ((items.size : Int) - 1)) (hl : IsTup s.heap t items) (hlen : items.size ≤ 2 ^ 24)
    (h : ∀ tk, Q ((items.size : Int) != 0) { s with toks := tk }) : wpAny (model prog w) A (Builtin.List.listLengthHint (.ref it)) Q E s := by
  obtain ⟨o, ho, hc, hd⟩ := id hit
  unfold Builtin.List.listLengthHint
  refine wpAny_bind (wpAny_specialOf hit.typeIs rev_no_len ?_)
  try dsimp only
  refine wpAny_ite_split (fun hab => absurd hab (by decide +kernel)) (fun _ => ?_)
  refine wpAny_ite_split (fun hab => absurd hab (by decide)) (fun _ => ?_)
  refine wpAny_bind (wpAny_specialOf hit.typeIs slot_rev_hint.lookup ?_)
  generalize hid : ("reversed.__length_hint__" : String) = id0
  wp_delta
  rw [show splitId id0 = some ("reversed", "__length_hint__") from by subst hid; decide +kernel]
  subst hid
  refine wpAny_bind (wpAny_isInstance (T := "reversed") (b := true) hit.typeIs F.sub_reversed_self ?_)
  refine wpAny_ite_split (fun hab => absurd hab (by decide)) (fun _ => ?_)
  refine wpAny_ite_split (fun hab => absurd hab (by decide +kernel)) (fun _ => ?_)
  refine wpAny_bind (wpAny_rule ?_)
  refine wpAny_bind (wpAny_of_eq (slot_rev_hint.bind _) ?_)
  try dsimp only
  refine wpAny_bind (wpAny_attempt (wpAny_call_entry slot_rev_hint hit.typeIs entry_rev_hint ?_ (args_rev_hint_1 _)))
  unfold Builtin.«reversed.__length_hint__»
  refine wpAny_bind (wpAny_of_eq (a := Value.ref it) rfl ?_)
  try dsimp only
  refine wpAny_bind (wpAny_field ho hd (x := .ref t) rfl ?_)
  refine wpAny_ite_split (fun hab => by simp at hab) (fun _ => ?_)
  refine wpAny_bind (PyProof.Rows.len_tuple hl (by omega) ?_)
  refine wpAny_bind (m := asInt? _) (wpAny_pure ?_)
  try dsimp only
  refine wpAny_bind (wpAny_field ho hd (x := rawInt ((items.size : Int) - 1)) rfl ?_)
  try dsimp only
  show wpAny _ _ (if (items.size : Int) < ((items.size : Int) - 1) + 1 then _ else retInt (((items.size : Int) - 1) + 1)) _ _ _
  rw [if_neg (by omega), show ((items.size : Int) - 1) + 1 = (items.size : Int) by omega]
  have hfi : Builtin.List.listFitsIndex (items.size : Int) = true := by simp [Builtin.List.listFitsIndex]; omega
  have htl : Builtin.List.listTooLong ((items.size : Int).toNat) = false := by simp [Builtin.List.listTooLong, sizeLine]; omega
  have hn0 : ¬ (items.size : Int) < 0 := by omega
  generalize (items.size : Int) = n at h hfi htl hn0 ⊢
  refine wpAny_bind (wpAny_mkInt (wpAny_pure ⟨_, rfl, ?_⟩))
  refine wpAny_bind (m := asInt? _) (wpAny_pure ?_)
  refine wpAny_ite_split (fun hab => absurd hab (by rw [hfi]; decide)) (fun _ => ?_)
  refine wpAny_ite_split (fun hab => absurd hab hn0) (fun _ => ?_)
  exact wpAny_ite_split (fun hab => absurd hab (by rw [htl]; decide)) (fun _ => wpAny_pure (h _))
end
theorem walks_rev {prog : Program} {w : World} {A : Around} (hh : A.handled = none) (I t : Addr) (hne : t ≠ I) (items : Array Value) (hfit : (items.size : Int) < 2 ^ 63) :
    Walks prog w A I [I, t] [I] items.size (fun i v => items[items.size - 1 - i]? = some v) (fun i h => i ≤ items.size ∧ IsRevT h I t ((items.size : Int) - 1 - (i : Int)) ∧ IsTup h t items) where
  sub := fun b hb => by simp at hb; simp [hb]
  frame := fun _ _ _ x hk => ⟨x.1, x.2.1.at fun o e => hk I (by simp) o e, tupAt x.2.2 fun o e => hk t (by simp) o e⟩
  item := fun i s Q E hi x hQ => by
    have e : (items.size : Int) - 1 - (i : Int) = ((items.size - 1 - i : Nat) : Int) := by omega
    have hit := x.2.1
    rw [e] at hit
    have hx : items[items.size - 1 - i]? = some (items[items.size - 1 - i]'(by omega)) := Array.getElem?_eq_getElem (by omega)
    refine rev_next_item hit x.2.2 hx hne hfit fun h' tk hit' hs' => ?_
    have e2 : ((items.size - 1 - i : Nat) : Int) - 1 = (items.size : Int) - 1 - ((i + 1 : Nat) : Int) := by omega
    rw [e2] at hit'
    exact hQ _ h' tk hx ⟨hi, hit', tupAt x.2.2 fun o eo => (hs'.2 t hne).trans eo⟩ fun b o hb eo => hs'.extBut b o (fun h => hb (by simp [h])) eo
  done := fun s Q E x hQ => by
    have e : (items.size : Int) - 1 - (items.size : Int) = -1 := by omega
    have hit := x.2.1
    rw [e] at hit
    exact rev_next_end hh hit fun h' he' => hQ h' s.toks fun b o hb eo => he' b o (fun h => hb (by simp [h])) eo
  self := fun _ _ _ _ x hQ => rev_iter x.2.1 hQ
section
variable {prog : Program} {w : World} {A : Around} {E : Value → Shared → Prop} {s : Shared}
theorem extend_rev {R : Result → Shared → Prop} {r t : Addr} {items : Array Value} (hh : A.handled = none) (hr : IsRevT s.heap r t ((items.size : Int) - 1)) (ht : IsTup s.heap t items) (hlen : items.size ≤ 2 ^ 20) (hne : t ≠ r) (S : Addr) (res : Value) (c₀ : Nat) (hSr : S ≠ r) (hSt : S ≠ t)
    (hS : s.heap.get? S = some { cls := .type "list", data := .seq #[] c₀ })
    (hR : ∀ h' tk acc' c', (∀ b o, b ≠ S → b ≠ r → s.heap.get? b = some o → h'.get? b = some o) → h'.get? S = some { cls := .type "list", dict := none, data := .seq acc' c', slots := #[] } →
      ItemsOf (fun i v => items[items.size - 1 - i]? = some v) acc' items.size → R (.ok (.ret res)) { s with heap := h', toks := tk }) :
    wpAny (model prog w) A.in1 (Builtin.List.listExtendWith (.ref S) (.ref r) res)
      (fun fin s' => match fin with | .done f => R (.ok f) s' | .again c' => c'.quiet = true ∧ codeAny (model prog w) A c' R s') (fun e s' => R (.error e) s') s := by
  have hSf : S ∉ [r, t] := by simp [hSr, hSt]
  have W := (walks_rev (prog := prog) (w := w) (A := A.in1) hh r t hne items (by omega)).toS
  have key : ∀ (h : Heap) (c₁ tk : Nat), (∀ b o, b ≠ S → s.heap.get? b = some o → h.get? b = some o) →
      h.get? S = some { cls := .type "list", data := .seq #[] c₁ } → codeAny (model prog w) A (.builtin "list.extend.loop" ⟨[.ref S, .ref r, res], []⟩) R { s with heap := h, toks := tk } := by
    intro h c₁ tk hk hS₁
    refine codeAny_extend_loopS W (by rw [sizeLine_eq]; omega) S hSf res items.size 0 _ #[] c₁ rfl (Nat.zero_le _) ⟨Nat.zero_le _, by simpa using hr.at fun o e => hk r o (Ne.symm hSr) e, tupAt ht fun o e => hk t o (Ne.symm hSt) e⟩ hS₁ (ItemsOf.nil _) fun s' acc' c' hm hS' hacc => ?_
    rw [Moved.eq_with hm]
    refine hR s'.heap s'.toks acc' c' (fun b o hb hb2 e => hm.heap b o (fun hmem => ?_) (hk b o hb e)) hS' hacc
    rcases List.mem_cons.mp hmem with e' | hmem
    · exact hb e'
    · exact hb2 (List.mem_singleton.mp hmem)
  unfold Builtin.List.listExtendWith
  refine wpAny_bind (wpAny_typeOf (T := "reversed") hr.typeIs ?_)
  have h1 : Builtin.List.listSameRef (.ref S) (.ref r) = false := by simp [Builtin.List.listSameRef, hSr]
  have h2 : (Value.type "reversed" == Value.type "list") = false := by decide
  have h3 : (Value.type "reversed" == Value.type "tuple") = false := by decide
  simp only [h1, h2, h3, Bool.or_false, Bool.false_eq_true, if_false]
  refine wpAny_bind (rev_iter hr ?_)
  refine wpAny_bind (wpAny_holding (rev_hint hr ht (by omega) fun tk => ?_))
  refine wpAny_ite_split (fun _ => ?_) (fun _ => wpAny_pure ⟨plainId_quiet F.plain_extend_loop _, key _ c₀ _ (fun b o _ e => e) hS⟩)
  refine wpAny_bind (wpAny_rule ?_)
  refine wpAny_bind ?_
  show wpAny _ _ (updateSeq S (·.push .none) >>= fun _ => updateSeq S (·.pop)) _ _ _
  refine wpAny_bind (wpAny_updateSeq hS rfl ?_)
  have hS₂ := Heap.get?_update_self (Obj.mapSeq (·.push Value.none)) hS rfl
  refine wpAny_updateSeq (hz := by seq_fits) hS₂ rfl ?_
  have hS₃ := Heap.get?_update_self (Obj.mapSeq (·.pop)) hS₂ rfl
  refine wpAny_pure ⟨plainId_quiet F.plain_extend_loop _, key _ _ _ (fun b o hb e => ?_) hS₃⟩
  exact (Heap.get?_update_other _ _ (Ne.symm hb)).trans ((Heap.get?_update_other _ _ (Ne.symm hb)).trans e)
theorem init_rev {R : Result → Shared → Prop} {r t : Addr} {items : Array Value} (hh : A.handled = none) (hr : IsRevT s.heap r t ((items.size : Int) - 1)) (ht : IsTup s.heap t items) (hlen : items.size ≤ 2 ^ 20) (hne : t ≠ r) (S : Addr) (hSr : S ≠ r) (hSt : S ≠ t)
    (hS : s.heap.get? S = some { cls := .type "list", data := .seq #[] })
    (hR : ∀ h' tk acc' c', (∀ b o, b ≠ S → b ≠ r → s.heap.get? b = some o → h'.get? b = some o) → h'.get? S = some { cls := .type "list", dict := none, data := .seq acc' c', slots := #[] } →
      ItemsOf (fun i v => items[items.size - 1 - i]? = some v) acc' items.size → R (.ok (.ret .none)) { s with heap := h', toks := tk }) :
    wpAny (model prog w) A.in1 (Builtin.«list.__init__» ⟨[.ref S, .ref r], []⟩)
      (fun fin s' => match fin with | .done f => R (.ok f) s' | .again c' => c'.quiet = true ∧ codeAny (model prog w) A c' R s') (fun e s' => R (.error e) s') s := by
  show wpAny _ _ (do let old ← Builtin.List.listItems (.ref S); Builtin.List.listUpdate (.ref S) (fun _ => #[]); letGo old.toList.reverse; Builtin.List.listExtendWith (.ref S) (.ref r) .none) _ _ s
  refine wpAny_bind ?_
  unfold Builtin.List.listItems
  refine wpAny_bind (wpAny_seqItems hS rfl (wpAny_pure ?_))
  show wpAny _ _ (updateSeq S (fun _ => #[]) >>= fun _ => letGo (#[] : Array Value).toList.reverse >>= fun _ => Builtin.List.listExtendWith (.ref S) (.ref r) .none) _ _ s
  refine wpAny_bind (wpAny_updateSeq hS rfl ?_)
  have hS₂ := Heap.get?_update_self (Obj.mapSeq (fun _ => (#[] : Array Value))) hS rfl
  have oth : ∀ b o, b ≠ S → s.heap.get? b = some o → (s.heap.update S (Obj.mapSeq (fun _ => (#[] : Array Value)))).get? b = some o :=
    fun b o hb e => (Heap.get?_update_other _ _ (Ne.symm hb)).trans e
  refine wpAny_bind (wpAny_letGo ?_)
  refine extend_rev hh (hr.at fun o e => oth r o (Ne.symm hSr) e) (tupAt ht fun o e => oth t o (Ne.symm hSt) e) hlen hne S .none _ hSr hSt hS₂ fun h' tk acc' c' hk hS' hacc => ?_
  exact hR h' tk acc' c' (fun b o hb hb2 e => hk b o hb hb2 (oth b o hb e)) hS' hacc
theorem call_list_rev {Q : Value → Shared → Prop} {r t : Addr} {items : Array Value} (hh : A.handled = none) (hr : IsRevT s.heap r t ((items.size : Int) - 1)) (ht : IsTup s.heap t items) (hlen : items.size ≤ 2 ^ 20) (hne : t ≠ r)
    (hQ : ∀ h' tk acc' c', (∀ b o, b ≠ r → s.heap.get? b = some o → h'.get? b = some o) →
      h'.get? s.heap.objs.size = some { cls := .type "list", dict := none, data := .seq acc' c', slots := #[] } → ItemsOf (fun i v => items[items.size - 1 - i]? = some v) acc' items.size → Q (.ref s.heap.objs.size) { s with heap := h', toks := tk }) :
    wpAny (model prog w) A (call (.type "list") [.ref r]) Q E s := by
  refine callType_codes (Q₁ := fun obj s₁ => obj = .ref s.heap.objs.size ∧ s₁ = { s with heap := s.heap.push { cls := .type "list", data := .seq #[] } }) F.called_list (F.typeCall_list_1 _) F.entry_list_init
    (code_list_new _ ⟨rfl, rfl⟩) fun obj s₁ h₁ => ?_
  obtain ⟨rfl, rfl⟩ := h₁
  have hS : (s.heap.push { cls := .type "list", data := .seq #[] }).get? s.heap.objs.size = some { cls := .type "list", data := .seq #[] } := Heap.get?_push_size _ rfl
  have n1 : s.heap.objs.size ≠ r := by obtain ⟨o, e, _⟩ := hr; exact Nat.ne_of_gt (Heap.lt_size e)
  have n2 : s.heap.objs.size ≠ t := by obtain ⟨o, e, _⟩ := ht; exact Nat.ne_of_gt (Heap.lt_size e)
  refine ⟨⟨_, hS, rfl⟩, F.args_list_init_2 _ _, init_rev (A := A.in1) hh (hr.at fun o e => Heap.get?_push_of_some _ e) (tupAt ht fun o e => Heap.get?_push_of_some _ e) hlen hne _ n1 n2 hS fun h' tk acc' c' hk hS' hacc => ?_⟩
  exact ⟨rfl, hQ h' tk acc' c' (fun b o hb e => hk b o (Nat.ne_of_lt (Heap.lt_size e)) hb (Heap.get?_push_of_some _ e)) hS' hacc⟩
end
end KT
set_option Elab.async false
set_option linter.all false
set_option maxRecDepth 100000
namespace KT
open PySem PySem.Spec PyProof.Rows L2
theorem vals_rev : ∀ {xs : List V} {us : List Value}, Vals xs us → Vals xs.reverse us.reverse
  | _, _, .nil => .nil
  | _, _, .cons r t => by
    rw [List.reverse_cons, List.reverse_cons]
    exact Vals.append (vals_rev t) (.cons r .nil)
theorem items_rev {its : List Value} {acc : Array Value} (h : ItemsOf (fun i v => its.toArray[its.toArray.size - 1 - i]? = some v) acc its.toArray.size) : acc.toList = its.reverse := by
  obtain ⟨h1, h2⟩ := h
  simp only [List.size_toArray] at h1 h2
  apply List.ext_getElem?
  intro i
  by_cases hi : i < its.length
  · have hia : i < acc.size := by omega
    have e := h2 i acc[i] (Array.getElem?_eq_getElem hia)
    rw [Array.getElem?_toList, Array.getElem?_eq_getElem hia, List.getElem?_reverse hi]
    rw [← e]
    simp
  · rw [List.getElem?_eq_none (by simp; omega), List.getElem?_eq_none (by simp; omega)]
theorem reps_rev {P : PP} {H : Hp} : ∀ {ds : List PyData} {vs : List V}, Reps P H ds vs → Reps P H ds.reverse vs.reverse := by
  have app : ∀ {ds es : List PyData} {vs ws : List V}, Reps P H ds vs → Reps P H es ws → Reps P H (ds ++ es) (vs ++ ws) := by
    intro ds
    induction ds with
    | nil => intro es vs ws r q; have r : vs = [] := r; subst r; exact q
    | cons d ds ih =>
      intro es vs ws r q
      obtain ⟨v, vs', rfl, rv, rs⟩ := r
      exact ⟨v, vs' ++ ws, rfl, rv, ih rs q⟩
  intro ds
  induction ds with
  | nil => intro vs r; have r : vs = [] := r; subst r; rfl
  | cons d ds ih =>
    intro vs r
    obtain ⟨v, vs', rfl, rv, rs⟩ := r
    rw [List.reverse_cons, List.reverse_cons]
    exact app (ih rs) ⟨v, [], rfl, rv, rfl⟩
theorem boot_reversed : bootBuiltins "reversed" = some (.type "reversed") := by decide +kernel
section
variable {X : Cx} {XO : XOT} {e : Expr} {fa : FE} {pos p p2 p3 : Pos}
end
end KT
set_option Elab.async false
set_option linter.all false
set_option maxRecDepth 100000
namespace KT
open PySem PySem.Spec PyProof.Rows L2
section
variable {X : Cx} {XO : XOF} {cv : Cfg} {e : Expr} {f : FE} {tg : Expr} {tf : FT} {pos : Pos}
end
end KT
set_option Elab.async false
set_option linter.all false
set_option maxRecDepth 100000
namespace KT
open PySem PySem.Spec PyProof.Rows
/-! ### list(reversed(l)) of a list -/
theorem lri_no_len : typeLookup (.type "list_reverseiterator") "__len__" = pure none := by rw [typeLookup_type, builtinLookup_eq_fast]; kernel_rfl
theorem slot_lri_hint : PySem.Slot "list_reverseiterator" "__length_hint__" "list_reverseiterator.__length_hint__" :=
  .of (owner := "list_reverseiterator") (n := "__length_hint__") (by rw [typeLookup_type, builtinLookup_eq_fast]; kernel_rfl) (by decide +kernel) (by decide +kernel) (by decide +kernel)
    (by first | exact .inl (by decide +kernel) | exact .inr (by decide +kernel)) (by rw [isSubtype_type]; kernel_rfl)
theorem sub_lri : isSubtype (.type "list_reverseiterator") (.type "list_reverseiterator") = pure true := by rw [isSubtype_type]; kernel_rfl
section
variable {prog : Program} {w : World} {A : Around} {E : Value → Shared → Prop} {s : Shared}
theorem lri_hint {it l : Addr} {i : Int} {Q : Bool → Shared → Prop} (hit : s.heap.IsRevIter it l i) (h : Q false s) : wpAny (model prog w) A (Builtin.List.listLengthHint (.ref it)) Q E s := by
  unfold Builtin.List.listLengthHint
  refine wpAny_bind (wpAny_specialOf hit.typeIs lri_no_len ?_)
  try dsimp only
  refine wpAny_ite_split (fun hab => absurd hab (by decide +kernel)) (fun _ => ?_)
  refine wpAny_ite_split (fun hab => absurd hab (by decide)) (fun _ => ?_)
  refine wpAny_bind (wpAny_specialOf hit.typeIs slot_lri_hint.lookup ?_)
  generalize hid : ("list_reverseiterator.__length_hint__" : String) = id0
  wp_delta
  rw [show splitId id0 = some ("list_reverseiterator", "__length_hint__") from by subst hid; decide +kernel]
  subst hid
  refine wpAny_bind (wpAny_isInstance (T := "list_reverseiterator") (b := true) hit.typeIs sub_lri ?_)
  refine wpAny_ite_split (fun hab => absurd hab (by decide)) (fun _ => ?_)
  refine wpAny_ite_split (fun _ => ?_) (fun hab => absurd (by decide +kernel) hab)
  refine wpAny_ite_split (fun hab => absurd hab (by decide)) (fun _ => ?_)
  exact wpAny_pure h
theorem extend_revL {R : Result → Shared → Prop} {r t : Addr} {items : Array Value} (hh : A.handled = none) (hr : s.heap.IsRevIter r t ((items.size : Int) - 1)) (ht : s.heap.IsList t items) (hlen : items.size ≤ 2 ^ 20) (hne : t ≠ r) (S : Addr) (res : Value) (c₀ : Nat) (hSr : S ≠ r) (hSt : S ≠ t)
    (hS : s.heap.get? S = some { cls := .type "list", data := .seq #[] c₀ })
    (hR : ∀ h' tk acc' c', (∀ b o, b ≠ S → b ≠ r → s.heap.get? b = some o → h'.get? b = some o) → h'.get? S = some { cls := .type "list", dict := none, data := .seq acc' c', slots := #[] } →
      ItemsOf (fun i v => items[items.size - 1 - i]? = some v) acc' items.size → R (.ok (.ret res)) { s with heap := h', toks := tk }) :
    wpAny (model prog w) A.in1 (Builtin.List.listExtendWith (.ref S) (.ref r) res)
      (fun fin s' => match fin with | .done f => R (.ok f) s' | .again c' => c'.quiet = true ∧ codeAny (model prog w) A c' R s') (fun e s' => R (.error e) s') s := by
  have hSf : S ∉ [r, t] := by simp [hSr, hSt]
  have W := (Walks.listRev (prog := prog) (w := w) (A := A.in1) hh r t hne items).toS
  unfold Builtin.List.listExtendWith
  refine wpAny_bind (wpAny_typeOf (T := "list_reverseiterator") hr.typeIs ?_)
  have h1 : Builtin.List.listSameRef (.ref S) (.ref r) = false := by simp [Builtin.List.listSameRef, hSr]
  have h2 : (Value.type "list_reverseiterator" == Value.type "list") = false := by decide
  have h3 : (Value.type "list_reverseiterator" == Value.type "tuple") = false := by decide
  simp only [h1, h2, h3, Bool.or_false, Bool.false_eq_true, if_false]
  refine wpAny_bind (wpAny_pyIter_revIter hr ?_)
  refine wpAny_bind (wpAny_holding (lri_hint hr ?_))
  refine wpAny_ite_split (fun hab => absurd hab (by decide +kernel)) (fun _ => wpAny_pure ⟨plainId_quiet F.plain_extend_loop _, ?_⟩)
  refine codeAny_extend_loopS W (by rw [sizeLine_eq]; omega) S hSf res items.size 0 _ #[] c₀ rfl (Nat.zero_le _) ⟨Nat.zero_le _, by simpa using hr, ht⟩ hS (ItemsOf.nil _) fun s' acc' c' hm hS' hacc => ?_
  rw [Moved.eq_with hm]
  refine hR s'.heap s'.toks acc' c' (fun b o hb hb2 e => hm.heap b o (fun hmem => ?_) e) hS' hacc
  rcases List.mem_cons.mp hmem with e' | hmem
  · exact hb e'
  · exact hb2 (List.mem_singleton.mp hmem)
theorem init_revL {R : Result → Shared → Prop} {r t : Addr} {items : Array Value} (hh : A.handled = none) (hr : s.heap.IsRevIter r t ((items.size : Int) - 1)) (ht : s.heap.IsList t items) (hlen : items.size ≤ 2 ^ 20) (hne : t ≠ r) (S : Addr) (hSr : S ≠ r) (hSt : S ≠ t)
    (hS : s.heap.get? S = some { cls := .type "list", data := .seq #[] })
    (hR : ∀ h' tk acc' c', (∀ b o, b ≠ S → b ≠ r → s.heap.get? b = some o → h'.get? b = some o) → h'.get? S = some { cls := .type "list", dict := none, data := .seq acc' c', slots := #[] } →
      ItemsOf (fun i v => items[items.size - 1 - i]? = some v) acc' items.size → R (.ok (.ret .none)) { s with heap := h', toks := tk }) :
    wpAny (model prog w) A.in1 (Builtin.«list.__init__» ⟨[.ref S, .ref r], []⟩)
      (fun fin s' => match fin with | .done f => R (.ok f) s' | .again c' => c'.quiet = true ∧ codeAny (model prog w) A c' R s') (fun e s' => R (.error e) s') s := by
  show wpAny _ _ (do let old ← Builtin.List.listItems (.ref S); Builtin.List.listUpdate (.ref S) (fun _ => #[]); letGo old.toList.reverse; Builtin.List.listExtendWith (.ref S) (.ref r) .none) _ _ s
  refine wpAny_bind ?_
  unfold Builtin.List.listItems
  refine wpAny_bind (wpAny_seqItems hS rfl (wpAny_pure ?_))
  show wpAny _ _ (updateSeq S (fun _ => #[]) >>= fun _ => letGo (#[] : Array Value).toList.reverse >>= fun _ => Builtin.List.listExtendWith (.ref S) (.ref r) .none) _ _ s
  refine wpAny_bind (wpAny_updateSeq hS rfl ?_)
  have hS₂ := Heap.get?_update_self (Obj.mapSeq (fun _ => (#[] : Array Value))) hS rfl
  have oth : ∀ b o, b ≠ S → s.heap.get? b = some o → (s.heap.update S (Obj.mapSeq (fun _ => (#[] : Array Value)))).get? b = some o :=
    fun b o hb e => (Heap.get?_update_other _ _ (Ne.symm hb)).trans e
  refine wpAny_bind (wpAny_letGo ?_)
  refine extend_revL hh (hr.at fun o e => oth r o (Ne.symm hSr) e) (ht.at fun o e => oth t o (Ne.symm hSt) e) hlen hne S .none _ hSr hSt hS₂ fun h' tk acc' c' hk hS' hacc => ?_
  exact hR h' tk acc' c' (fun b o hb hb2 e => hk b o hb hb2 (oth b o hb e)) hS' hacc
theorem call_list_revL {Q : Value → Shared → Prop} {r t : Addr} {items : Array Value} (hh : A.handled = none) (hr : s.heap.IsRevIter r t ((items.size : Int) - 1)) (ht : s.heap.IsList t items) (hlen : items.size ≤ 2 ^ 20) (hne : t ≠ r)
    (hQ : ∀ h' tk acc' c', (∀ b o, b ≠ r → s.heap.get? b = some o → h'.get? b = some o) →
      h'.get? s.heap.objs.size = some { cls := .type "list", dict := none, data := .seq acc' c', slots := #[] } → ItemsOf (fun i v => items[items.size - 1 - i]? = some v) acc' items.size → Q (.ref s.heap.objs.size) { s with heap := h', toks := tk }) :
    wpAny (model prog w) A (call (.type "list") [.ref r]) Q E s := by
  refine callType_codes (Q₁ := fun obj s₁ => obj = .ref s.heap.objs.size ∧ s₁ = { s with heap := s.heap.push { cls := .type "list", data := .seq #[] } }) F.called_list (F.typeCall_list_1 _) F.entry_list_init
    (code_list_new _ ⟨rfl, rfl⟩) fun obj s₁ h₁ => ?_
  obtain ⟨rfl, rfl⟩ := h₁
  have hS : (s.heap.push { cls := .type "list", data := .seq #[] }).get? s.heap.objs.size = some { cls := .type "list", data := .seq #[] } := Heap.get?_push_size _ rfl
  have n1 : s.heap.objs.size ≠ r := by obtain ⟨o, e, _⟩ := hr; exact Nat.ne_of_gt (Heap.lt_size e)
  have n2 : s.heap.objs.size ≠ t := by obtain ⟨o, e, _⟩ := ht; exact Nat.ne_of_gt (Heap.lt_size e)
  refine ⟨⟨_, hS, rfl⟩, F.args_list_init_2 _ _, init_revL (A := A.in1) hh (hr.at fun o e => Heap.get?_push_of_some _ e) (ht.at fun o e => Heap.get?_push_of_some _ e) hlen hne _ n1 n2 hS fun h' tk acc' c' hk hS' hacc => ?_⟩
  exact ⟨rfl, hQ h' tk acc' c' (fun b o hb e => hk b o (Nat.ne_of_lt (Heap.lt_size e)) hb (Heap.get?_push_of_some _ e)) hS' hacc⟩
end
end KT
set_option Elab.async false
set_option linter.all false
set_option maxRecDepth 100000
namespace KT
open PySem PySem.Spec PyProof.Rows L2
def rRev (K : PySem.W.Frag) : List V → Hp → VK → Prop := fun xs H Q => ∃ t ys, xs = [.ref t] ∧ (SqT K H t ys ∨ SqL K H t ys) ∧ ys.length ≤ big ∧ ∀ l, H l = none → Q (.ref l) (upd H l (.lst ys.reverse))
section
variable {X : Cx} {XO : XOT} {e : Expr} {fa : FE} {pos p p2 p3 : Pos}
theorem x_listRevB (C : BC X) (hc : X.calm = true) (ha : PE X e (tF XO fa)) (hg : Gl X "list" := by rfl) (hgr : Gl X "reversed" := by rfl) (he : starEach [e] X.env = (false, eval e X.env) :: starEach [] X.env := by exact star_cons rfl) (hpl : (backTo p3 (starEach [] X.env)).any (·.1) = false := by exact star_any rfl)
    (he' : starEach [.Call (.Name "reversed" p2) [e] [] p3] X.env = (false, eval (.Call (.Name "reversed" p2) [e] [] p3) X.env) :: starEach [] X.env := by exact star_cons rfl) (hpl' : (backTo pos (starEach [] X.env)).any (·.1) = false := by exact star_any rfl) :
    PE X (.Call (.Name "list" p) [.Call (.Name "reversed" p2) [e] [] p3] [] pos) (tF XO (eListRev fa)) := by
  intro pins s σ H Q I h
  have h' := call_read (r := rRev X.K) (op := dListRev) (fun H₀ Hs H l x d v Q s0 s1 e rx q => by
    unfold dListRev at e
    split at e
    · rename_i xs
      split at e
      · rename_i hcond
        rw [Bool.and_eq_true, decide_eq_true_eq] at hcond
        cases e
        obtain ⟨t, vs, rfl, hp, rs⟩ := rx
        exact ⟨t, vs, rfl, .inl (.inl hp), by rw [rs.length]; exact hcond.2, fun m hm => q _ _ (same_new hm _) ⟨m, _, rfl, .inl ⟨⟨rfl, s1.free hm⟩, upd_same⟩, (reps_rev (rs.nl hcond.1)).same (same_new hm _)⟩⟩
      · cases e
    · rename_i xs
      split at e
      · rename_i hcond
        rw [Bool.and_eq_true, decide_eq_true_eq] at hcond
        cases e
        obtain ⟨t, vs, rfl, hp, rs⟩ := rx
        exact ⟨t, vs, rfl, .inr (.inl hp.rd), by rw [rs.length]; exact hcond.2, fun m hm => q _ _ (same_new hm _) ⟨m, _, rfl, .inl ⟨⟨rfl, s1.free hm⟩, upd_same⟩, (reps_rev (rs.nl hcond.1)).same (same_new hm _)⟩⟩
      · cases e
    · cases e) h
  have h2 : tF XO fa σ H (fun v H1 => rRev X.K [v] H1 Q) := h'
  refine wpAny_Call_Name_kw (ld_blt I hg C.mlist PyProof.Rows.boot_list ?_ (by decide) (by decide))
  refine PyProof.Rows.callWith_type1 ?_ he' hpl'
  rw [he']
  show wpAny _ _ (spliced ((false, eval (.Call (.Name "reversed" p2) [e] [] p3) X.env) :: backTo pos (starEach [] X.env))) _ _ s
  refine Calls.spliced_cons ?_
  refine wpAny_Call_Name_kw (ld_blt I hgr C.mrev boot_reversed ?_ (by decide) (by decide))
  refine PyProof.Rows.callWith_type1 ?_ he hpl
  rw [he]
  show wpAny _ _ (spliced ((false, eval e X.env) :: backTo p3 (starEach [] X.env))) _ _ s
  refine Calls.spliced_cons (thn (ha pins s σ H _ I h2) fun u s1 ⟨x, H1, I1, rx, t, ys, ex, hq, hb, q⟩ => ?_)
  have ex : x = .ref t := by simpa using ex
  subst ex
  cases rx
  refine Calls.spliced_nil ?_
  rcases hq with hq | hq
  · obtain ⟨its, rv, ht, hz⟩ := I1.tuple hq
    have hl := rv.length
    have hbb : big < 2 ^ 20 := by decide
    refine call_rev_tup ht (by simp; omega) ?_
    refine Calls.spliced_nil ?_
    have hr : IsRevT (s1.heap.push (revT t ((its.toArray.size : Int) - 1))) s1.heap.objs.size t ((its.toArray.size : Int) - 1) := ⟨_, Heap.get?_push_size _ rfl, rfl, rfl⟩
    have htl : t < s1.heap.objs.size := by obtain ⟨o, e, _⟩ := ht; exact Heap.lt_size e
    refine call_list_rev (I1.ok.hd hc) hr (tupAt ht fun o e => Heap.get?_push_of_some _ e) (by simp; omega) (Nat.ne_of_lt htl) fun h3 tk acc c hk hD hI => ?_
    have hsz : (s1.heap.push (revT t ((its.toArray.size : Int) - 1))).objs.size = s1.heap.objs.size + 1 := Heap.size_push ..
    have eacc := items_rev hI
    refine ⟨.ref (s1.heap.push (revT t ((its.toArray.size : Int) - 1))).objs.size, _, I1.laid (t' := tk) (fun b o q => hk b o (Nat.ne_of_lt (Heap.lt_size q)) (Heap.get?_push_of_some _ q)) (by rw [hsz]; exact Nat.le_add_right _ 1)
      (show ObjOk X.prog X.w _ h3 _ (.lst ys.reverse) from ⟨by rw [List.length_reverse]; exact hz, its.reverse, c, vals_rev rv, by rw [← eacc]; simpa using hD⟩), rfl, q _ (I1.hok.fresh (by rw [hsz]; exact Nat.le_add_right _ 1))⟩
  · obtain ⟨its, rv, pl, hz⟩ := I1.list hq
    have ht := pl.isList
    have hl := rv.length
    have hbb : big < 2 ^ 20 := by decide
    refine call_reversed_list ht ?_
    refine Calls.spliced_nil ?_
    have hr : (s1.heap.push (revObj t ((its.toArray.size : Int) - 1))).IsRevIter s1.heap.objs.size t ((its.toArray.size : Int) - 1) := ⟨_, Heap.get?_push_size _ rfl, rfl, rfl⟩
    have htl : t < s1.heap.objs.size := by obtain ⟨o, e, _⟩ := ht; exact Heap.lt_size e
    refine call_list_revL (I1.ok.hd hc) hr (ht.at fun o e => Heap.get?_push_of_some _ e) (by simp; omega) (Nat.ne_of_lt htl) fun h3 tk acc c hk hD hI => ?_
    have hsz : (s1.heap.push (revObj t ((its.toArray.size : Int) - 1))).objs.size = s1.heap.objs.size + 1 := Heap.size_push ..
    have eacc := items_rev hI
    refine ⟨.ref (s1.heap.push (revObj t ((its.toArray.size : Int) - 1))).objs.size, _, I1.laid (t' := tk) (fun b o q => hk b o (Nat.ne_of_lt (Heap.lt_size q)) (Heap.get?_push_of_some _ q)) (by rw [hsz]; exact Nat.le_add_right _ 1)
      (show ObjOk X.prog X.w _ h3 _ (.lst ys.reverse) from ⟨by rw [List.length_reverse]; exact hz, its.reverse, c, vals_rev rv, by rw [← eacc]; simpa using hD⟩), rfl, q _ (I1.hok.fresh (by rw [hsz]; exact Nat.le_add_right _ 1))⟩
end
end KT
set_option Elab.async false
set_option linter.all false
set_option maxRecDepth 100000
namespace KT
open PySem PySem.Spec PyProof.Rows L2
/-! ### for i in range(a, -1, -1), range(a, b) -/
def Itd (lo : Int) (n : Nat) : It := ⟨fun i _ => i < n, fun i H x H' => H' = H ∧ x = .int (lo - i), fun i _ => n ≤ i⟩
theorem turn_down {P : Program} {w : World} {K : PySem.W.Frag} {tg : Expr} (it : Addr) (lo : Int) (n : Nat) : Turn P w K tg (Itd lo n) [it] it (fun i h => IsRangeIter h it (lo + (i : Nat) * (-1)) ((n : Int) - (i : Nat)) (-1)) where
  mem := by simp
  obj := fun i h st b hb => by
    have e : b = it := by simpa using hb
    subst e
    exact ⟨_, st, fun v z => by
      have z' : Data.fields _ = Data.cell v := z
      cases z'⟩
  keep := fun i h h' st k => k it (by simp) _ st
  item := by
    intro X hP hw hK hc i pins s σ H E I hf st hg
    subst hP hw hK
    obtain ⟨f0, f1, f2, f3, f4, f5⟩ := hf it (by simp)
    have W := Walks.range (prog := X.prog) (w := X.w) (I.ok.hd hc) it lo (-1) n
    refine W.item i s _ _ hg st fun v h' tk hv st' kk => ?_
    obtain ⟨t, rfl⟩ := hv
    have I1 : Inv X pins σ H { s with heap := h', toks := tk } := I.turned (fun b o hb e => kk b o (by simpa using hb) e) f0 f1 f3 f4 f5
    refine ⟨_, rfl, go_of (s := { s with heap := h', toks := tk }) (n := "range_iterator") st' rfl rfl (by decide) ⟨.int (lo - i), H, I1, ⟨t, ?_⟩, ⟨rfl, rfl⟩, st', fun b hb => (hf b hb).1⟩⟩
    congr 1
    omega
  done := by
    intro X hP hw hK hc i pins s σ H E I hf st hg
    subst hP hw hK
    obtain ⟨f0, f1, f2, f3, f4, f5⟩ := hf it (by simp)
    exact wpAny_pyNext_range_end (I.ok.hd hc) st (by have : n ≤ i := hg; omega) fun h' eb => ⟨rfl, I.turned (t' := s.toks) (fun b o hb e => eb b o hb e) f0 f1 f3 f4 f5⟩
  self := fun _ _ _ _ _ st h => wpAny_pyIter_rangeiter st h
section
variable {X : Cx} {tg : Expr}
theorem down_it {pins : List (Addr × Obj)} {σ : L2.St} {H : Hp} {s : Shared} {R : It → Hp → Prop} {E : Value → Shared → Prop} {lo hi : Int} {t u v : Tok} {tk : Nat} (I : Inv X pins σ H s) (h1 : -(2 ^ 62) ≤ lo) (h2 : lo < 2 ^ 62) (h3 : -(2 ^ 62) ≤ hi) (h4 : hi < 2 ^ 62)
    (q : R (Itd lo (lo - hi).toNat) H) : wpAny (model X.prog X.w) X.A (pyIter (.ref s.heap.objs.size)) (PIE X pins σ tg R) E { s with heap := s.heap.push { cls := .type "range", data := .fields #[.int lo t, .int hi u, .int (-1) v] }, toks := tk } := by
  refine wpAny_pyIter_range (IsRange.new ..) (PySem.W.small_down h1 h2 h3 h4) ?_
  have I1 : Inv X pins σ H { s with heap := s.heap.push { cls := .type "range", data := .fields #[.int lo t, .int hi u, .int (-1) v] }, toks := tk } := I.kept fun b o e => Heap.get?_push_of_some _ e
  refine ⟨(s.heap.push { cls := .type "range", data := .fields #[.int lo t, .int hi u, .int (-1) v] }).objs.size, [(s.heap.push { cls := .type "range", data := .fields #[.int lo t, .int hi u, .int (-1) v] }).objs.size], _, _, H, rfl,
    I1.kept (t' := tk) fun b o e => Heap.get?_push_of_some _ e, turn_down _ lo (lo - hi).toNat, ?_, fun b hb => ?_, q⟩
  · have e1 : lo + ((0 : Nat) : Int) * (-1) = lo := by simp
    have e2 : (((lo - hi).toNat : Nat) : Int) - ((0 : Nat) : Int) = Builtin.Range.rangeSize lo hi (-1) := by rw [PySem.W.rangeSize_downNat]; omega
    show IsRangeIter _ _ (lo + ((0 : Nat) : Int) * (-1)) ((((lo - hi).toNat : Nat) : Int) - ((0 : Nat) : Int)) (-1)
    rw [e1, e2]
    exact Heap.get?_push_size _ rfl
  · have e : b = (s.heap.push { cls := .type "range", data := .fields #[.int lo t, .int hi u, .int (-1) v] }).objs.size := by simpa using hb
    subst e
    exact I1.fpOk (Nat.le_refl _) (I1.hok.fresh (Nat.le_refl _))
def iRngD (ta : TA) : TI := fun σ H R => ta σ H fun vs H1 => ∃ i j : Int, vs = [.int i, .int j, .int (-1)] ∧ (-(2 ^ 60) ≤ i ∧ i < 2 ^ 60 ∧ -(2 ^ 60) ≤ j ∧ j < 2 ^ 60) ∧ R (Itd i (i - j).toNat) H1
theorem pi_down {a b c : Expr} {ta : TA} {p pos : Pos} (hg : Gl X "range") (hm : X.mg "range" = none) (ha : PA X [a, b, c] ta) (hs : starEach [a, b, c] X.env = (false, eval a X.env) :: starEach [b, c] X.env) (hpl : (backTo pos (starEach [b, c] X.env)).any (·.1) = false) :
    PI X tg (.Call (.Name "range" p) [a, b, c] [] pos) (iRngD ta) := by
  intro pins s σ H R I h
  refine Call_ (ld_blt I hg hm boot_range (PyProof.Rows.callWith_type1 (thn (ha pos pins s σ H _ I h) fun us s1 ⟨vs, H1, I1, r1, q1⟩ => ?_) hs hpl))
  obtain ⟨i, j, e, ⟨q1, q2, q3, q4⟩, q⟩ := q1
  subst e
  cases r1 with
  | cons r rr =>
    cases rr with
    | cons r' rr =>
      cases rr with
      | cons r'' rr =>
        cases rr
        obtain ⟨t, rfl⟩ := r
        obtain ⟨t', rfl⟩ := r'
        obtain ⟨t'', rfl⟩ := r''
        exact call_range_3 (by decide) (down_it I1 (by omega) (by omega) (by omega) (by omega) q) (.inl (PyProof.noPylong_small (by omega)))
end
section
variable {X : Cx} {XO : XOT} {tg e e2 e3 : Expr} {f f2 f3 : FE} {pos p p1 p2 p3 p4 : Pos}
theorem yields_down {Z : Hp} {n : Nat} : Yields Z (Itd ((n : Int) - 1) n) (downFrom n) := fun H2 s i => by
  refine ⟨fun d hd => ?_, fun hi => ?_⟩
  · unfold downFrom at hd
    rw [List.getElem?_map] at hd
    cases hr : (List.range n)[i]? with
    | none => rw [hr] at hd; cases hd
    | some k =>
      rw [hr] at hd
      cases hd
      obtain ⟨hlt, hk⟩ := List.getElem?_eq_some_iff.mp hr
      rw [List.length_range] at hlt
      rw [List.getElem_range] at hk
      subst hk
      refine ⟨hlt, fun x H3 y => ?_⟩
      obtain ⟨e, y⟩ := y
      subst e y
      exact ⟨Same.refl _, rfl⟩
  · show n ≤ i
    rw [hi]
    simp [downFrom]
theorem i_down (C : BC X) {j1 j2 : Nat} (h : PE X e (tF XO f)) (hg : Gl X "range" := by rfl)
    (hs : starEach [e, .UnaryOp .USub (.Constant (.int 1) j1 p1) p2, .UnaryOp .USub (.Constant (.int 1) j2 p3) p4] X.env = (false, eval e X.env) :: starEach [.UnaryOp .USub (.Constant (.int 1) j1 p1) p2, .UnaryOp .USub (.Constant (.int 1) j2 p3) p4] X.env := by exact star_cons rfl)
    (hpl : (backTo pos (starEach [.UnaryOp .USub (.Constant (.int 1) j1 p1) p2, .UnaryOp .USub (.Constant (.int 1) j2 p3) p4] X.env)).any (·.1) = false := by exact star_any rfl) :
    PI X tg (.Call (.Name "range" p) [e, .UnaryOp .USub (.Constant (.int 1) j1 p1) p2, .UnaryOp .USub (.Constant (.int 1) j2 p3) p4] [] pos) (tI XO (iDown f)) :=
  PI.imp (pi_down hg C.mrange (a_cons h (a_cons (x_neg x_int) (a_cons (x_neg x_int) (a_nil (XO := XO)) (star_cons rfl)) (star_cons rfl)) hs) hs hpl) fun σ H R ⟨H₀, Hs, ρ, r, g, e, k, kx⟩ => by
    unfold iDown at e
    split at e
    · rename_i l a hf
      split at e
      · rename_i hn
        cases e
        have hb : big < 2 ^ 40 := by decide
        refine ⟨H₀, Hs, ρ, .ok (min l (min 2 (min 2 2))) [.int a, .int (-1), .int (-1)], g, by simp [eArgs, hf, eNeg, e1, eC, bindE, dNeg], fun l' ds vs H1 e' s1 r1 => ?_, fun c H' e => (nomatch e)⟩
        cases e'
        obtain ⟨v1, vr, rfl, q1, r1⟩ := r1
        obtain ⟨v2, vr, rfl, q2, r1⟩ := r1
        obtain ⟨v3, vr, rfl, q3, r1⟩ := r1
        have r1 : vr = [] := r1
        subst r1
        refine ⟨a, -1, by rw [show v1 = V.int a from q1, show v2 = V.int (-1) from q2, show v3 = V.int (-1) from q3], by omega, ?_⟩
        refine k 2 _ _ H1 rfl s1 fun Z _ _ => ?_
        rw [show (a - -1).toNat = (a + 1).toNat by omega]
        by_cases ha : 0 ≤ a + 1
        · have e1 : a = (((a + 1).toNat : Nat) : Int) - 1 := by omega
          have := yields_down (Z := Z) (n := (a + 1).toNat)
          rw [← e1] at this
          exact this
        · have e0 : (a + 1).toNat = 0 := by omega
          rw [e0]
          exact fun H2 s i => ⟨fun d hd => by simp [downFrom] at hd, fun _ => Nat.zero_le _⟩
      · cases e
    · rename_i c hf
      cases e
      exact ⟨H₀, Hs, ρ, .exc c, g, by simp [eArgs, hf], fun l' ds vs H1 e' => (nomatch e'), fun c' H' e' s => kx c' H' (by cases e'; rfl) s⟩
    · cases e
/-- the defs that a name may hold -/
structure PF (CX : CXT) (P : Program) (w : World) (K : PySem.W.Frag) (mg : Str → Option Value) (base : Heap) (cv : Nat → Value) (n ar : Nat) (gs : List (Nat × FC)) : Prop where
  ex : ∀ a g, gs.lookup a = some g → ∃ x, FnF CX P w K mg base cv n x ar g ∧ mg x = some (.ref a)
section
variable {CX : CXT} {P : Program} {w : World} {K : PySem.W.Frag} {mg : Str → Option Value} {base : Heap} {cv : Nat → Value} {n ar : Nat} {gs : List (Nat × FC)} {x : Str} {a : Nat} {g : FC}
end
section
variable {CX : CXT} {es : List Expr} {fs : List FE} {n ar : Nat} {gs : List (Nat × FC)}
end
/-! ### a module's tuple of numbers and texts, at an index -/
structure KTup (K : PySem.W.Frag) (mg : Str → Option Value) (x : Str) (d : PyData) : Prop where
  ex : ∃ (a : Addr) (ds : List PyData) (vs : List V), d = .tuple ds ∧ mg x = some (.ref a) ∧ (∀ H : Hp, SqT K H a vs) ∧ ∀ (P : PP) (H : Hp), Reps P H ds vs
end
end KT
set_option Elab.async false
set_option linter.all false
set_option maxRecDepth 100000
namespace KT
open PySem PySem.Spec PyProof.Rows L2 AutoSeq1
/-! ### for i, x in enumerate(t), t a tuple -/
section
variable {prog : Program} {w : World} {A : Around} {E : Value → Shared → Prop} {s : Shared}
end
section
variable {X : Cx} {elts : List Expr} {k1 : Nat} {tpos p pos : Pos}
end
section
variable {X : Cx} {XO : XOF} {cv : Cfg} {body : List Stmt} {b : FS} {pos p tpos : Pos} {tf : FT} {elts : List Expr} {k1 : Nat}
end
end KT
set_option Elab.async false
set_option linter.all false
set_option maxRecDepth 100000
namespace KT
open PySem PySem.Spec PyProof.Rows L2
section
variable {X : Cx} {XO : XOF} {cv : Cfg} {pos : Pos} {H₀ F H : Hp} {ρ : Rho} {σ : L2.St}
end
end KT
set_option Elab.async false
set_option linter.all false
set_option maxRecDepth 100000
namespace KT
open PySem PySem.Spec PyProof.Rows L2
/-! ### the end: the text's defs as they stand, all with n calls, the law's call -/
structure FunT (K : PySem.W.Frag) (mg : Str → Option Value) (x : Str) (st : Stmt) (ps : List Str) : Prop where
  ex : ∃ f fd, Fun K x x st f fd ∧ mg x = some (.ref f) ∧ Binds K fd ps [] ∧ ∀ (s : Shared) (us : List Value), us.length = ps.length → BindsTo s fd ⟨us, []⟩ (ps.zip us)
section
variable {P : Program} {w : World} {K : PySem.W.Frag} {mg : Str → Option Value} {base : Heap} {cv : Nat → Value} {CX : CXT} {n ar : Nat} {x : Str} {st : Stmt} {ps : List Str} {g : FC}
theorem fnF0 (F : FunT K mg x st ps) : FnF CX P w K mg base cv 0 x ar (fun _ => none) := by
  obtain ⟨f, fd, F, hm, hb, _⟩ := F.ex
  have no : ∀ vs H Q E, ¬ spD cv ar (fun _ => none) vs H Q E := fun vs H Q E h => by
    obtain ⟨ds, r, _, _, z, _⟩ := h
    cases z
  exact ⟨f, fd, ps, ⟨fun vs H Q E h => absurd h (no vs H Q E), fun A outer s H args us vs Q E _ _ _ _ h => absurd h (no vs H Q E)⟩, hm, F.kp, hb⟩
theorem fnFS (F : FunT K mg x st ps) (ok : ∀ f fd, Fun K x x st f fd → FnOk P w K mg base CX n f fd ps (spD cv ar g)) : FnF CX P w K mg base cv n x ar g := by
  obtain ⟨f, fd, F, hm, hb, _⟩ := F.ex
  exact ⟨f, fd, ps, ok f fd F, hm, F.kp, hb⟩
theorem funT_mk {h : Heap} {f : Addr} {oc : Value} {od an : Option Addr} {osl : Array (Option Value)} {kV doc pm cdv ct : Value} (X : K.In h) (G : h.Ns mainGlobals mg) (a : PySem.W.nsIn K mainGlobals x = some (some (.ref f)))
    (l : K.lookup f = some ⟨oc, od, .func (PySem.W.fnOf x x (defArgs st) (defBody st) (defScope st) .none kV doc pm an cdv ct), osl⟩) (c : PySem.W.codeIn K cdv x = true) (k : PySem.W.keepIn K (.ref f) = true)
    (hb : ∀ (kV doc pm : Value) (an : Option Addr) (cdv ct : Value) (us : List Value), us.length = ps.length → bindArgs (PySem.W.fnOf x x (defArgs st) (defBody st) (defScope st) .none kV doc pm an cdv ct) ⟨us, []⟩ = pure (ps.zip us)) : FunT K mg x st ps :=
  have F := fun_mk (st := st) l c k
  ⟨f, _, F, PySem.W.mg_of X G a, F.binds hb, fun s us hl => .of_eq (hb kV doc pm an cdv ct us hl)⟩
end
theorem len1 {us : List Value} (h : us.length = 1) : ∃ a, us = [a] := List.length_eq_one_iff.mp h
theorem len2 {us : List Value} (h : us.length = 2) : ∃ a b, us = [a, b] := by
  cases us with
  | nil => cases h
  | cons a r => obtain ⟨b, rfl⟩ := len1 (by simpa using h); exact ⟨a, b, rfl⟩
theorem len3 {us : List Value} (h : us.length = 3) : ∃ a b c, us = [a, b, c] := by
  cases us with
  | nil => cases h
  | cons a r => obtain ⟨b, c, rfl⟩ := len2 (by simpa using h); exact ⟨a, b, c, rfl⟩
theorem len4 {us : List Value} (h : us.length = 4) : ∃ a b c d, us = [a, b, c, d] := by
  cases us with
  | nil => cases h
  | cons a r => obtain ⟨b, c, d, rfl⟩ := len3 (by simpa using h); exact ⟨a, b, c, d, rfl⟩
/-- the written part bears no list -/
def noLists (K : PySem.W.Frag) : Bool := K.all fun p => p.2.cls != .type "list"
theorem frag_mem : ∀ {K : PySem.W.Frag} {a : Addr} {o : Obj}, K.lookup a = some o → (a, o) ∈ K
  | [], _, _, e => by cases e
  | (b, u) :: r, a, o, e => by
    rw [List.lookup_cons] at e
    by_cases z : (a == b) = true
    · rw [z] at e
      cases e
      have : a = b := by simpa using z
      subst this
      exact List.mem_cons_self
    · have z : (a == b) = false := by simpa using z
      rw [z] at e
      exact List.mem_cons_of_mem _ (frag_mem e)
theorem noLists_of {K : PySem.W.Frag} (h : noLists K = true) {a : Addr} {o : Obj} (e : K.lookup a = some o) : o.cls ≠ .type "list" := by
  unfold noLists at h
  rw [List.all_eq_true] at h
  have := h (a, o) (frag_mem e)
  simpa using this
theorem reps_ints {P : PP} {H : Hp} : ∀ ns : List Int, Reps P H (ns.map .int) (ns.map V.int)
  | [] => rfl
  | n :: r => ⟨.int n, _, rfl, rfl, reps_ints r⟩
theorem rep_script {K : PySem.W.Frag} {H : Hp} {a : Addr} {ns : List Int} (hk : noLists K = true) (h : SqL K H a (ns.map V.int)) : Rep (fun _ _ => True) H (.list (ns.map .int)) (.ref a) := by
  rcases h with h | ⟨o, its, n, hl, hc, _⟩
  · exact ⟨a, _, rfl, h.elim (fun z => .inl ⟨trivial, z⟩) fun z => .inr ⟨trivial, z⟩, reps_ints ns⟩
  · exact absurd hc (noLists_of hk hl)
/-! ### the error classes -/
def exName : Nat → Str
  | 1 => "NotRead"
  | 2 => "NoTurning"
  | 3 => "NoNumber"
  | 4 => "NoThing"
  | 5 => "Unlike"
  | _ => "KindError"
def gv (K : PySem.W.Frag) (x : Str) : Option Value := match PySem.W.nsIn K mainGlobals x with
  | some (some v) => some v
  | _ => none
/-- the class of an own error by its number; one that the text lacks: KindError -/
def cvOf (K : PySem.W.Frag) (c : Nat) : Value := match gv K (exName c) with
  | some v => v
  | none => (gv K "KindError").getD .none
section
variable {K : PySem.W.Frag} {h : Heap} {mg : Str → Option Value} {x : Str} {sub : Nat → Bool}
theorem mF_of (X : K.In h) (G : h.Ns mainGlobals mg) (hb : (["len", "int", "bool", "str", "tuple", "list", "isinstance", "range", "enumerate", "zip", "reversed"] : List Str).all (fun x => PySem.W.nsIn K mainGlobals x == some none) = true) : MF mg := by
  simp only [List.all_cons, List.all_nil, Bool.and_true, Bool.and_eq_true, beq_iff_eq] at hb
  obtain ⟨a, b, c, d, e, f, g, i, j, k, l⟩ := hb
  exact ⟨PySem.W.mg_none_of X G a, PySem.W.mg_none_of X G b, PySem.W.mg_none_of X G c, PySem.W.mg_none_of X G d, PySem.W.mg_none_of X G e, PySem.W.mg_none_of X G f, PySem.W.mg_none_of X G g, PySem.W.mg_none_of X G i, PySem.W.mg_none_of X G j, PySem.W.mg_none_of X G k, PySem.W.mg_none_of X G l⟩
end
theorem cx1_none {P : Program} {w : World} {H : Hp} {s : Shared} {e : Value} {s' : Shared} (h : CX1 P w [] H s (fun _ _ _ => False) e s') : False := by
  obtain ⟨_, _, _, _, _, _, _, _, _, z⟩ := h
  exact z
theorem law_sp {K : PySem.W.Frag} {cv : Nat → Value} {g : FC} {H : Hp} {a : Addr} {ns : List Int} (hk : noLists K = true) (hg : g [.list (ns.map .int)] = some (.ok (.bool true))) (h : SqL K H a (ns.map V.int)) : spD cv 1 g [.ref a] H (fun v _ => v = .bl true) fun _ _ _ => False :=
  ⟨[.list (ns.map .int)], _, rfl, ⟨.ref a, [], rfl, rep_script hk h, rfl⟩, hg, fun d v H' e _ r => by cases e; exact r, fun c H' e => (nomatch e)⟩
theorem walk {l : PySem.W.OpenLaw} {q : Program} {loose : List Str} {XP : (Str → Option Value) → Heap → Prop} {YP : World → Heap → Prop} {d : DefRec} {K : Params → PySem.W.Frag} {g : FC} {N : Nat} {st : Stmt} (hn : l.most = some 63) (hdf : d.params.defaults = []) (hr : Room N callerA)
    (hY : ∀ (w : World) (h : Heap), YP w h → (K w.params).In h) (hd : d.name = "law")
    (F : ∀ (w : World) (mg : Str → Option Value) (h : Heap), (K w.params).In h → h.Ns mainGlobals mg → FunT (K w.params) mg "law" st ["script"] ∧
      ∀ f fd, Fun (K w.params) "law" "law" st f fd → ∀ base : Heap, FnOk l.prog w (K w.params) mg base (CX1 l.prog w) N f fd ["script"] (spD (cvOf (K w.params)) 1 g))
    (hL : ∀ w : World, noLists (K w.params) = true) (hg : ∀ ns : List Int, ns.length ≤ 63 → g [.list (ns.map .int)] = some (.ok (.bool true))) :
    PySem.W.WalkO q loose XP YP l.row.toRowW d [] (fun f vs => PySem.call f vs) :=
  L2.walk_of (n := 63) (k := N) (x := "script") (CX := fun w => CX1 l.prog w) (sp := fun w => spD (cvOf (K w.params)) 1 g) hn (by decide) hdf hr hY (fun w mg fa h KX G hm => by
    obtain ⟨T, ok⟩ := F w mg h KX G
    obtain ⟨f, fd, FF, hmf, _, hb⟩ := T.ex
    rw [hd, hmf] at hm
    cases hm
    exact ⟨fd, fun s u => hb s [u] rfl, fun base _ _ => ok _ fd FF base⟩) (fun w H a ns hl _ hS => law_sp (hL w) (hg ns hl) hS) fun w H s e s' z => cx1_none z
end KT
set_option Elab.async false
set_option linter.all false
set_option maxRecDepth 100000
namespace KT
open PySem PySem.Spec PyProof.Rows L2
/-! ### a module's constants -/
def scB : PyData → Value → Bool
  | .int i, .int j _ => i == j
  | .str x, .str y _ => x == y
  | _, _ => false
def scV : PyData → V
  | .int i => .int i
  | .str x => .str x
  | _ => .non
end KT
set_option Elab.async false
set_option linter.all false
set_option maxRecDepth 100000
namespace KT
open PySem PySem.W PyProof.Rows
/-! ### what the tree of a sort's questions comes to: a row that rises -/
noncomputable def ev {α : Type} (lt : Nat → Nat → Bool) : KasT α → α
  | .ret a => a
  | .ask i j k => ev lt (k (lt i j))
theorem ev_bind {α β : Type} (lt : Nat → Nat → Bool) (f : α → KasT β) : ∀ t : KasT α, ev lt (t.bind f) = ev lt (f (ev lt t))
  | .ret _ => rfl
  | .ask i j k => ev_bind lt f (k (lt i j))
section
variable {O : KeyOrd} (κ : Nat → O.α)
/-- the key at a place -/
noncomputable def Ky (p : Array Nat) (i : Nat) : O.α := κ (p.getD i 0)
noncomputable def lto (i j : Nat) : Bool := O.blt (κ i) (κ j)
def Rise (p : Array Nat) (k : Nat) : Prop := ∀ i j, i ≤ j → j < k → O.kle (Ky κ p i) (Ky κ p j)
def Fall (p : Array Nat) (k : Nat) : Prop := ∀ i j, i ≤ j → j < k → O.kle (Ky κ p j) (Ky κ p i)
variable {κ}
theorem ky_congr {p q : Array Nat} {i j : Nat} (h : p[i]? = q[j]?) : Ky κ p i = Ky κ q j := by
  have : p.getD i 0 = q.getD j 0 := by
    rw [Array.getD_eq_getD_getElem?, Array.getD_eq_getD_getElem?, h]
  unfold Ky; rw [this]
theorem ky_bubble {p : Array Nat} {src d : Nat} (hs : src < p.size) (hd : d ≤ src) (k : Nat) : Ky κ (bubble p src d) k = if k = src - d then Ky κ p src else if src - d < k ∧ k ≤ src then Ky κ p (k - 1) else Ky κ p k := by
  have e := getElem?_bubble hs d hd k
  split
  · rename_i h; rw [if_pos h] at e; exact ky_congr e
  · rename_i h
    rw [if_neg h] at e
    split
    · rename_i h2; rw [if_pos h2] at e; exact ky_congr e
    · rename_i h2; rw [if_neg h2] at e; exact ky_congr e
theorem ky_rev {p : Array Nat} {i j : Nat} (hj : j ≤ p.size) (k : Nat) : Ky κ (kas_rev p i j) k = if i ≤ k ∧ k < j then Ky κ p (i + j - 1 - k) else Ky κ p k := by
  have e := getElem?_mirror_all (i := i) hj k
  unfold kas_rev
  split
  · rename_i h; rw [if_pos h] at e; exact ky_congr e
  · rename_i h; rw [if_neg h] at e; exact ky_congr e
theorem rev_same {p : Array Nat} {i j : Nat} (hj : j ≤ p.size) (he : ∀ k, i ≤ k → k < j → Ky κ p k = Ky κ p (j - 1)) (k : Nat) : Ky κ (kas_rev p i j) k = Ky κ p k := by
  rw [ky_rev hj]
  split
  · rename_i h; rw [he k h.1 h.2, he (i + j - 1 - k) (by omega) (by omega)]
  · rfl
theorem rev_size (p : Array Nat) (i j : Nat) : (kas_rev p i j).size = p.size := mirror_size _ _ _ _
theorem rev_perm (p : Array Nat) (i j : Nat) : (kas_rev p i j).Perm p := mirror_perm _ _ _ _
theorem kle_of_no {a b : O.α} (h : O.blt a b = false) : O.kle b a := h
theorem kle_of_yes {a b : O.α} (h : O.blt a b = true) : O.kle a b := KeyOrd.kle_of_klt h
theorem rise_one (p : Array Nat) : Rise κ p 1 := fun i j h1 h2 => by
  have : i = j := by omega
  subst this; exact KeyOrd.kle_refl _
theorem rise_step {p : Array Nat} {n : Nat} (h1 : 1 ≤ n) (h : Rise κ p n) (e : O.kle (Ky κ p (n - 1)) (Ky κ p n)) : Rise κ p (n + 1) := fun i j hij hj => by
  by_cases hjn : j = n
  · subst hjn
    by_cases hi : i = j
    · subst hi; exact KeyOrd.kle_refl _
    · exact KeyOrd.kle_trans (h i (j - 1) (by omega) (by omega)) e
  · exact h i j hij (by omega)
theorem fall_step {p : Array Nat} {n : Nat} (h1 : 1 ≤ n) (h : Fall κ p n) (e : O.kle (Ky κ p n) (Ky κ p (n - 1))) : Fall κ p (n + 1) := fun i j hij hj => by
  by_cases hjn : j = n
  · subst hjn
    by_cases hi : i = j
    · subst hi; exact KeyOrd.kle_refl _
    · exact KeyOrd.kle_trans e (h i (j - 1) (by omega) (by omega))
  · exact h i j hij (by omega)
theorem asc_ev (p : Array Nat) : ∀ (f n : Nat), 1 ≤ n → Rise κ p n → Rise κ p (ev (lto κ) (kas_asc p f n)) ∧ n ≤ ev (lto κ) (kas_asc p f n) ∧ ev (lto κ) (kas_asc p f n) ≤ n + f ∧ (ev (lto κ) (kas_asc p f n) < n + f → O.blt (Ky κ p (ev (lto κ) (kas_asc p f n))) (Ky κ p (ev (lto κ) (kas_asc p f n) - 1)) = true)
  | 0, n, _, h => ⟨h, Nat.le_refl _, Nat.le_refl _, fun z => absurd z (Nat.lt_irrefl _)⟩
  | f + 1, n, h1, h => by
    have e : ev (lto κ) (kas_asc p (f + 1) n) = ev (lto κ) (if lto κ (p.getD n 0) (p.getD (n - 1) 0) = true then .ret n else kas_asc p f (n + 1)) := rfl
    rw [e]
    cases q : lto κ (p.getD n 0) (p.getD (n - 1) 0) with
    | true => exact ⟨h, Nat.le_refl _, by show n ≤ _; omega, fun _ => q⟩
    | false =>
      rw [if_neg (by simp)]
      obtain ⟨a, b, c, d⟩ := asc_ev p f (n + 1) (by omega) (rise_step h1 h (kle_of_no q))
      exact ⟨a, by omega, by omega, fun z => d (by omega)⟩
theorem desc_ev : ∀ (f : Nat) (p : Array Nat) (n q : Nat), q + 1 ≤ n → n + f ≤ p.size → Fall κ p n → (∀ i, n - (q + 1) ≤ i → i < n → Ky κ p i = Ky κ p (n - 1)) →
    ∃ p' n' q', ev (lto κ) (kas_desc f p n q) = (p', n', q') ∧ p'.Perm p ∧ q' + 1 ≤ n' ∧ n' ≤ n + f ∧ Fall κ p' n' ∧ ∀ i, n' - (q' + 1) ≤ i → i < n' → Ky κ p' i = Ky κ p' (n' - 1)
  | 0, p, n, q, h1, h2, h3, h4 => ⟨p, n, q, rfl, Array.Perm.refl _, h1, Nat.le_refl _, h3, h4⟩
  | f + 1, p, n, q, h1, h2, h3, h4 => by
    have e : ev (lto κ) (kas_desc (f + 1) p n q) = ev (lto κ) (if lto κ (p.getD n 0) (p.getD (n - 1) 0) = true then (if q > 0 then kas_desc f (kas_rev p (n - (q + 1)) n) (n + 1) 0 else kas_desc f p (n + 1) 0)
      else .ask (p.getD (n - 1) 0) (p.getD n 0) fun d => if d = true then .ret (p, n, q) else kas_desc f p (n + 1) (q + 1)) := rfl
    rw [e]
    cases c : lto κ (p.getD n 0) (p.getD (n - 1) 0) with
    | true =>
      rw [if_pos rfl]
      by_cases hq : q > 0
      · rw [if_pos hq]
        have same := rev_same (κ := κ) (p := p) (i := n - (q + 1)) (j := n) (by omega) h4
        have hf : Fall κ (kas_rev p (n - (q + 1)) n) (n + 1) := fall_step (by omega) (fun i j hij hj => by rw [same, same]; exact h3 i j hij hj) (by rw [same, same]; exact kle_of_yes c)
        obtain ⟨p', n', q', a1, a2, a3, a4, a5, a6⟩ := desc_ev f (kas_rev p (n - (q + 1)) n) (n + 1) 0 (by omega) (by rw [rev_size]; omega) hf (fun i h1 h2 => by congr 1; omega)
        exact ⟨p', n', q', a1, a2.trans (rev_perm _ _ _), a3, by omega, a5, a6⟩
      · rw [if_neg hq]
        obtain ⟨p', n', q', a1, a2, a3, a4, a5, a6⟩ := desc_ev f p (n + 1) 0 (by omega) (by omega) (fall_step (by omega) h3 (kle_of_yes c)) (fun i h1 h2 => by congr 1; omega)
        exact ⟨p', n', q', a1, a2, a3, by omega, a5, a6⟩
    | false =>
      rw [if_neg (by simp)]
      have e2 : ev (lto κ) (.ask (p.getD (n - 1) 0) (p.getD n 0) fun d => if d = true then .ret (p, n, q) else kas_desc f p (n + 1) (q + 1)) = ev (lto κ) (if lto κ (p.getD (n - 1) 0) (p.getD n 0) = true then .ret (p, n, q) else kas_desc f p (n + 1) (q + 1)) := rfl
      rw [e2]
      cases d : lto κ (p.getD (n - 1) 0) (p.getD n 0) with
      | true => rw [if_pos rfl]; exact ⟨p, n, q, rfl, Array.Perm.refl _, h1, by omega, h3, h4⟩
      | false =>
        rw [if_neg (by simp)]
        have eq : Ky κ p n = Ky κ p (n - 1) := O.total _ _ c d
        obtain ⟨p', n', q', a1, a2, a3, a4, a5, a6⟩ := desc_ev f p (n + 1) (q + 1) (by omega) (by omega) (fall_step (by omega) h3 (kle_of_no d)) (fun i h1 h2 => by
          show _ = Ky κ p n
          by_cases hi : i = n
          · subst hi; rfl
          · rw [eq]; exact h4 i (by omega) (by omega))
        exact ⟨p', n', q', a1, a2, a3, by omega, a5, a6⟩
theorem tail3_ev {n nrem : Nat} {p : Array Nat} (h1 : 1 ≤ n) (hn : n ≤ nrem) (hz : nrem ≤ p.size) (h : Fall κ p n) :
    ∃ m p', ev (lto κ) (kas_tail3 n nrem p) = (m, p') ∧ p'.Perm p ∧ m ≤ nrem ∧ 1 ≤ m ∧ Rise κ p' m := by
  have hr : Rise κ (kas_rev p 0 n) n := fun i j hij hj => by
    rw [ky_rev (by omega), ky_rev (by omega), if_pos (by omega), if_pos (by omega)]
    exact h _ _ (by omega) (by omega)
  obtain ⟨a, b, c, _⟩ := asc_ev (κ := κ) (kas_rev p 0 n) (nrem - n) n h1 hr
  refine ⟨ev (lto κ) (kas_asc (kas_rev p 0 n) (nrem - n) n), kas_rev p 0 n, ?_, rev_perm _ _ _, by omega, by omega, a⟩
  unfold kas_tail3
  rw [ev_bind]; rfl
theorem descPart_ev {n nrem : Nat} {p : Array Nat} (h1 : 1 ≤ n) (hn : n + 1 ≤ nrem) (hz : nrem ≤ p.size) (h : ∀ i, i < n → Ky κ p i = Ky κ p (n - 1)) (hd : O.blt (Ky κ p n) (Ky κ p (n - 1)) = true) :
    ∃ m p', ev (lto κ) (kas_descPart n nrem p) = (m, p') ∧ p'.Perm p ∧ m ≤ nrem ∧ 1 ≤ m ∧ Rise κ p' m := by
  have hf : Fall κ p (n + 1) := fall_step h1 (fun i j hij hj => by rw [h i (by omega), h j hj]; exact KeyOrd.kle_refl _) (kle_of_yes hd)
  obtain ⟨p', n', q', a1, a2, a3, a4, a5, a6⟩ := desc_ev (nrem - (n + 1)) p (n + 1) 0 (by omega) (by omega) hf (fun i h1 h2 => by congr 1; omega)
  have hsz : p'.size = p.size := a2.size_eq
  unfold kas_descPart
  rw [ev_bind, a1]
  dsimp only
  split
  · have same := rev_same (κ := κ) (p := p') (i := n' - (q' + 1)) (j := n') (by omega) a6
    obtain ⟨m, p2, b1, b2, b3, b4, b5⟩ := tail3_ev (κ := κ) (n := n') (nrem := nrem) (p := kas_rev p' (n' - (q' + 1)) n') (by omega) (by omega) (by rw [rev_size]; omega) (fun i j hij hj => by rw [same, same]; exact a5 i j hij hj)
    exact ⟨m, p2, b1, (b2.trans (rev_perm _ _ _)).trans a2, b3, b4, b5⟩
  · obtain ⟨m, p2, b1, b2, b3, b4, b5⟩ := tail3_ev (κ := κ) (n := n') (nrem := nrem) (p := p') (by omega) (by omega) (by omega) a5
    exact ⟨m, p2, b1, b2.trans a2, b3, b4, b5⟩
theorem count_ev {nrem : Nat} {p : Array Nat} (h1 : 1 ≤ nrem) (hz : nrem ≤ p.size) : ∃ m p', ev (lto κ) (kas_count nrem p) = (m, p') ∧ p'.Perm p ∧ m ≤ nrem ∧ 1 ≤ m ∧ Rise κ p' m := by
  obtain ⟨a, b, c, d⟩ := asc_ev (κ := κ) p (nrem - 1) 1 (Nat.le_refl _) (rise_one p)
  unfold kas_count
  rw [ev_bind]
  generalize ev (lto κ) (kas_asc p (nrem - 1) 1) = n at a b c d
  split
  · exact ⟨n, p, rfl, Array.Perm.refl _, by omega, b, a⟩
  · rename_i hne
    have hlt : n < nrem := by
      have : n ≠ nrem := fun z => hne (by simp [z])
      omega
    have hd := d (by omega)
    split
    · rename_i h2
      have e : ev (lto κ) (.ask (p.getD 0 0) (p.getD (n - 1) 0) fun c => if c = true then .ret (n, p) else kas_descPart n nrem (kas_rev p 0 n)) = ev (lto κ) (if lto κ (p.getD 0 0) (p.getD (n - 1) 0) = true then .ret (n, p) else kas_descPart n nrem (kas_rev p 0 n)) := rfl
      rw [e]
      cases q : lto κ (p.getD 0 0) (p.getD (n - 1) 0) with
      | true => exact ⟨n, p, rfl, Array.Perm.refl _, by omega, b, a⟩
      | false =>
        rw [if_neg (by simp)]
        have he : ∀ i, i < n → Ky κ p i = Ky κ p (n - 1) := fun i hi => by
          have e1 : O.kle (Ky κ p (n - 1)) (Ky κ p 0) := kle_of_no q
          exact KeyOrd.kle_antisymm (a i (n - 1) (by omega) (by omega)) (KeyOrd.kle_trans e1 (a 0 i (by omega) hi))
        have same := rev_same (κ := κ) (p := p) (i := 0) (j := n) (by omega) (fun k _ hk => he k hk)
        obtain ⟨m, p2, b1, b2, b3, b4, b5⟩ := descPart_ev (κ := κ) (n := n) (nrem := nrem) (p := kas_rev p 0 n) b (by omega) (by rw [rev_size]; omega) (fun i hi => by rw [same, same]; exact he i hi) (by rw [same, same]; exact hd)
        exact ⟨m, p2, b1, b2.trans (rev_perm _ _ _), b3, b4, b5⟩
    · rename_i h2
      have : n = 1 := by omega
      subst this
      exact descPart_ev (κ := κ) (Nat.le_refl _) (by omega) hz (fun i hi => by congr 1; omega) hd
theorem place_ev {p : Array Nat} {k : Nat} (h : Rise κ p k) : ∀ (f l r : Nat), r - l ≤ f → l ≤ r → r ≤ k → (∀ i, i < l → O.kle (Ky κ p i) (Ky κ p k)) → (∀ i, r ≤ i → i < k → O.kle (Ky κ p k) (Ky κ p i)) →
    ∃ m, ev (lto κ) (kas_place p k f l r) = m ∧ m ≤ k ∧ (∀ i, i < m → O.kle (Ky κ p i) (Ky κ p k)) ∧ ∀ i, m ≤ i → i < k → O.kle (Ky κ p k) (Ky κ p i)
  | 0, l, r, hf, hlr, hr, h1, h2 => ⟨l, rfl, by omega, h1, fun i a b => h2 i (by omega) b⟩
  | f + 1, l, r, hf, hlr, hr, h1, h2 => by
    unfold kas_place
    by_cases hge : l ≥ r
    · rw [if_pos hge]; exact ⟨l, rfl, by omega, h1, fun i a b => h2 i (by omega) b⟩
    · rw [if_neg hge]
      have e : ev (lto κ) (.ask (p.getD k 0) (p.getD ((l + r) / 2) 0) fun c => if c = true then kas_place p k f l ((l + r) / 2) else kas_place p k f ((l + r) / 2 + 1) r) = ev (lto κ) (if lto κ (p.getD k 0) (p.getD ((l + r) / 2) 0) = true then kas_place p k f l ((l + r) / 2) else kas_place p k f ((l + r) / 2 + 1) r) := rfl
      rw [e]
      cases q : lto κ (p.getD k 0) (p.getD ((l + r) / 2) 0) with
      | true =>
        rw [if_pos rfl]
        exact place_ev h f l ((l + r) / 2) (by omega) (by omega) (by omega) h1 fun i a b => KeyOrd.kle_trans (kle_of_yes q) (h _ _ a b)
      | false =>
        rw [if_neg (by simp)]
        exact place_ev h f ((l + r) / 2 + 1) r (by omega) (by omega) hr (fun i a => KeyOrd.kle_trans (h i ((l + r) / 2) (by omega) (by omega)) (kle_of_no q)) h2
theorem bin_ev : ∀ (f : Nat) (p : Array Nat) (k : Nat), k + f = p.size → Rise κ p k → ∃ p', ev (lto κ) (kas_bin f p k) = p' ∧ p'.Perm p ∧ Rise κ p' p.size
  | 0, p, k, hk, h => by
    have : k = p.size := by omega
    subst this
    exact ⟨p, rfl, Array.Perm.refl _, h⟩
  | f + 1, p, k, hk, h => by
    obtain ⟨l, e, hl, a1, a2⟩ := place_ev (κ := κ) h k 0 k (by omega) (by omega) (Nat.le_refl _) (fun i hi => absurd hi (Nat.not_lt_zero _)) (fun i x y => absurd y (by omega))
    unfold kas_bin
    rw [ev_bind, e]
    have hb := fun j => ky_bubble (κ := κ) (p := p) (src := k) (d := k - l) (by omega) (by omega) j
    have hr : Rise κ (bubble p k (k - l)) (k + 1) := fun i j hij hj => by
      rw [hb i, hb j]
      have e1 : k - (k - l) = l := by omega
      rw [e1]
      by_cases hi : i = l
      · rw [if_pos hi]
        by_cases hj' : j = l
        · rw [if_pos hj']; exact KeyOrd.kle_refl _
        · rw [if_neg hj', if_pos (by omega)]
          exact a2 (j - 1) (by omega) (by omega)
      · rw [if_neg hi]
        by_cases hj' : j = l
        · rw [if_pos hj', if_neg (by omega)]
          exact a1 i (by omega)
        · rw [if_neg hj']
          by_cases hi2 : l < i ∧ i ≤ k
          · rw [if_pos hi2, if_pos (by omega)]
            exact h _ _ (by omega) (by omega)
          · rw [if_neg hi2]
            by_cases hj2 : l < j ∧ j ≤ k
            · rw [if_pos hj2]; exact h _ _ (by omega) (by omega)
            · rw [if_neg hj2]; exact h _ _ hij (by omega)
    obtain ⟨p', b1, b2, b3⟩ := bin_ev f (bubble p k (k - l)) (k + 1) (by rw [bubble_size]; omega) hr
    rw [bubble_size] at b3
    exact ⟨p', b1, b2.trans (bubble_perm _ _ _), b3⟩
theorem sort_ev {n : Nat} (hn : 1 ≤ n) : ∃ p, ev (lto κ) (kas_sort n) = p ∧ p.Perm (List.toArray (List.range n)) ∧ Rise κ p n := by
  have hz : (List.toArray (List.range n)).size = n := by simp
  obtain ⟨m, p, e, h1, h2, h3, h4⟩ := count_ev (κ := κ) (nrem := n) (p := List.toArray (List.range n)) hn (by omega)
  have hp : p.size = n := h1.size_eq.trans hz
  unfold kas_sort
  rw [ev_bind, e]
  dsimp only
  by_cases hm : m < n
  · rw [if_pos hm]
    have e1 : max m 1 = m := by omega
    rw [e1]
    obtain ⟨p', b1, b2, b3⟩ := bin_ev (κ := κ) (n - m) p m (by omega) h4
    exact ⟨p', b1, b2.trans h1, by rw [← hp]; exact b3⟩
  · rw [if_neg hm]
    have : m = n := by omega
    subst this
    exact ⟨p, rfl, h1, h4⟩
end
/-! ### the questions ask for places that there are -/
def Run {α : Type} (P : Nat → Prop) (R : α → Prop) : KasT α → Prop
  | .ret a => R a
  | .ask i j k => P i ∧ P j ∧ ∀ b, Run P R (k b)
theorem run_bind {α β : Type} {P : Nat → Prop} {R : α → Prop} {S : β → Prop} {f : α → KasT β} (hf : ∀ a, R a → Run P S (f a)) : ∀ t : KasT α, Run P R t → Run P S (t.bind f)
  | .ret a, h => hf a h
  | .ask i j k, h => ⟨h.1, h.2.1, fun b => run_bind hf (k b) (h.2.2 b)⟩
def natOrd : KeyOrd := { α := Nat, blt := fun a b => decide (a < b), irrefl := fun a => by simp, trans := fun a b c h1 h2 => by simp at *; omega, negTrans := fun a b c h => by simp at *; omega, total := fun a b h1 h2 => by simp at *; omega }
def AllLt (n : Nat) (p : Array Nat) : Prop := ∀ k, p.getD k 0 < n
theorem allLt_rev {n : Nat} {p : Array Nat} {i j : Nat} (hj : j ≤ p.size) (h : AllLt n p) : AllLt n (kas_rev p i j) := fun k => by
  have e := ky_rev (O := natOrd) (κ := fun x => x) (p := p) (i := i) hj k
  have e : (kas_rev p i j).getD k 0 = if i ≤ k ∧ k < j then p.getD (i + j - 1 - k) 0 else p.getD k 0 := e
  rw [e]
  split <;> exact h _
theorem allLt_bubble {n : Nat} {p : Array Nat} {src d : Nat} (hs : src < p.size) (hd : d ≤ src) (h : AllLt n p) : AllLt n (bubble p src d) := fun k => by
  have e := ky_bubble (O := natOrd) (κ := fun x => x) (p := p) hs hd k
  have e : (bubble p src d).getD k 0 = if k = src - d then p.getD src 0 else if src - d < k ∧ k ≤ src then p.getD (k - 1) 0 else p.getD k 0 := e
  rw [e]
  by_cases c1 : k = src - d
  · rw [if_pos c1]; exact h src
  · rw [if_neg c1]
    by_cases c2 : src - d < k ∧ k ≤ src
    · rw [if_pos c2]; exact h _
    · rw [if_neg c2]; exact h _
theorem asc_run {N : Nat} (p : Array Nat) (h : AllLt N p) : ∀ (f n : Nat), Run (· < N) (fun m => n ≤ m ∧ m ≤ n + f) (kas_asc p f n)
  | 0, n => ⟨Nat.le_refl _, Nat.le_refl _⟩
  | f + 1, n => ⟨h _, h _, fun b => by
      cases b with
      | true => exact ⟨Nat.le_refl _, by omega⟩
      | false =>
        have := run_mono (asc_run p h f (n + 1)) (fun m (hm : n + 1 ≤ m ∧ m ≤ n + 1 + f) => show n ≤ m ∧ m ≤ n + (f + 1) by omega)
        exact this⟩
where
  run_mono {α : Type} {P : Nat → Prop} {R S : α → Prop} {t : KasT α} (ht : Run P R t) (hs : ∀ a, R a → S a) : Run P S t := by
    induction t with
    | ret a => exact hs a ht
    | ask i j k ih => exact ⟨ht.1, ht.2.1, fun b => ih b (ht.2.2 b)⟩
theorem desc_run {N M : Nat} : ∀ (f : Nat) (p : Array Nat) (n q : Nat), n + f ≤ M → p.size = M → q + 1 ≤ n → AllLt N p → Run (· < N) (fun r => r.1.size = M ∧ AllLt N r.1 ∧ r.2.2 + 1 ≤ r.2.1 ∧ r.2.1 ≤ M) (kas_desc f p n q)
  | 0, p, n, q, h1, h2, h3, h => ⟨h2, h, h3, by show n ≤ M; omega⟩
  | f + 1, p, n, q, h1, h2, h3, h => ⟨h _, h _, fun b => by
      cases b with
      | true =>
        show Run _ _ (if q > 0 then kas_desc f (kas_rev p (n - (q + 1)) n) (n + 1) 0 else kas_desc f p (n + 1) 0)
        split
        · exact desc_run f _ (n + 1) 0 (by omega) (by rw [rev_size]; exact h2) (by omega) (allLt_rev (by omega) h)
        · exact desc_run f p (n + 1) 0 (by omega) h2 (by omega) h
      | false =>
        refine ⟨h _, h _, fun d => ?_⟩
        cases d with
        | true => exact ⟨h2, h, h3, by show n ≤ M; omega⟩
        | false => exact desc_run f p (n + 1) (q + 1) (by omega) h2 (by omega) h⟩
theorem tail3_run {N M : Nat} {n nrem : Nat} {p : Array Nat} (hn : n ≤ nrem) (hz : nrem ≤ M) (hp : p.size = M) (h : AllLt N p) : Run (· < N) (fun r => r.2.size = M ∧ AllLt N r.2 ∧ r.1 ≤ nrem) (kas_tail3 n nrem p) := by
  unfold kas_tail3
  have hr := allLt_rev (n := N) (p := p) (i := 0) (j := n) (by omega) h
  refine run_bind (R := fun m => n ≤ m ∧ m ≤ n + (nrem - n)) (fun m hm => ?_) _ (asc_run _ hr _ _)
  exact ⟨(rev_size _ _ _).trans hp, hr, show m ≤ nrem by omega⟩
theorem descPart_run {N M : Nat} {n nrem : Nat} {p : Array Nat} (h1 : 1 ≤ n) (hn : n + 1 ≤ nrem) (hz : nrem ≤ M) (hp : p.size = M) (h : AllLt N p) (hM : nrem = M) : Run (· < N) (fun r => r.2.size = M ∧ AllLt N r.2 ∧ r.1 ≤ nrem) (kas_descPart n nrem p) := by
  unfold kas_descPart
  refine run_bind (R := fun r => r.1.size = M ∧ AllLt N r.1 ∧ r.2.2 + 1 ≤ r.2.1 ∧ r.2.1 ≤ M) (fun r hr => ?_) _ (desc_run _ p (n + 1) 0 (by omega) hp (by omega) h)
  split
  · exact tail3_run (by omega) hz (by rw [rev_size]; exact hr.1) (allLt_rev (by omega) hr.2.1)
  · exact tail3_run (by omega) hz hr.1 hr.2.1
theorem count_run {N n : Nat} {p : Array Nat} (h1 : 1 ≤ n) (hp : p.size = n) (h : AllLt N p) : Run (· < N) (fun r => r.2.size = n ∧ AllLt N r.2 ∧ r.1 ≤ n) (kas_count n p) := by
  unfold kas_count
  refine run_bind (R := fun m => 1 ≤ m ∧ m ≤ 1 + (n - 1)) (fun m hm => ?_) _ (asc_run p h _ _)
  split
  · exact ⟨hp, h, by show m ≤ n; omega⟩
  · rename_i hne
    have hlt : m < n := by
      have : m ≠ n := fun z => hne (by simp [z])
      omega
    split
    · refine ⟨h _, h _, fun b => ?_⟩
      cases b with
      | true => exact ⟨hp, h, by show m ≤ n; omega⟩
      | false => exact descPart_run (by omega) (by omega) (Nat.le_refl _) (by rw [rev_size]; exact hp) (allLt_rev (by omega) h) rfl
    · exact descPart_run (by omega) (by omega) (Nat.le_refl _) hp h rfl
theorem place_run {N : Nat} (p : Array Nat) (k : Nat) (h : AllLt N p) : ∀ (f l r : Nat), l ≤ k → r ≤ k → Run (· < N) (fun m => m ≤ k) (kas_place p k f l r)
  | 0, l, r, h1, h2 => h1
  | f + 1, l, r, h1, h2 => by
    unfold kas_place
    split
    · exact h1
    · refine ⟨h _, h _, fun b => ?_⟩
      cases b with
      | true => exact place_run p k h f l ((l + r) / 2) h1 (by omega)
      | false => exact place_run p k h f ((l + r) / 2 + 1) r (by omega) h2
theorem bin_run {N : Nat} : ∀ (f : Nat) (p : Array Nat) (k : Nat), k + f = p.size → AllLt N p → Run (· < N) (fun _ => True) (kas_bin f p k)
  | 0, p, k, _, _ => trivial
  | f + 1, p, k, hk, h => by
    unfold kas_bin
    exact run_bind (R := fun m => m ≤ k) (fun m hm => bin_run f _ (k + 1) (by rw [bubble_size]; omega) (allLt_bubble (by omega) (by omega) h)) _ (place_run p k h k 0 k (Nat.zero_le _) (Nat.le_refl _))
theorem sort_run {n : Nat} (hn : 1 ≤ n) : Run (· < n) (fun _ => True) (kas_sort n) := by
  have hp : (List.toArray (List.range n)).size = n := by simp
  have hl : AllLt n (List.toArray (List.range n)) := fun k => by
    rw [Array.getD_eq_getD_getElem?]
    by_cases hk : k < n
    · simp [hk]
    · simp [hk]; omega
  unfold kas_sort
  refine run_bind (R := fun r => r.2.size = n ∧ AllLt n r.2 ∧ r.1 ≤ n) (fun r hr => ?_) _ (count_run hn hp hl)
  split
  · exact bin_run _ _ _ (by omega) hr.2.1
  · trivial
/-- questions that leave the state as it is -/
theorem wp_run {α : Type} {lt : Nat → Nat → Bool} {cmp : Nat → Nat → (Bool → Shared → Prop) → Shared → Prop} {n : Nat} {s : Shared} {G : α → Shared → Prop} (hc : ∀ i j, i < n → j < n → ∀ C : Bool → Shared → Prop, C (lt i j) s → cmp i j C s) :
    ∀ t : KasT α, Run (· < n) (fun _ => True) t → G (ev lt t) s → t.kasWp cmp G s
  | .ret a, _, h => h
  | .ask i j k, r, h => hc i j r.1 r.2.1 _ (wp_run hc (k (lt i j)) (r.2.2 _) h)
end KT
set_option Elab.async false
set_option linter.all false
namespace KT
open PySem
/-! ### sorted -/
def gins {α : Type} (lt : α → α → Bool) (x : α) : List α → List α
  | [] => [x]
  | y :: ys => if lt y x = true then y :: gins lt x ys else x :: y :: ys
def gsort {α : Type} (lt : α → α → Bool) : List α → List α
  | [] => []
  | x :: xs => gins lt x (gsort lt xs)
def ltI (a b : Int) : Bool := decide (a < b)
def rowD (r : List Int) : PyData := .tuple (r.map .int)
def rowsOf : List PyData → Option (List (List Int))
  | [] => some []
  | .tuple xs :: r => (match intsOf xs, rowsOf r with
    | some a, some b => some (a :: b)
    | _, _ => none)
  | _ :: _ => none
def sortD (xs : List PyData) : Option PyData := if xs.length < 64 then (match intsOf xs with
  | some ns => some (.list ((gsort ltI ns).map .int))
  | none => (match rowsOf xs with
    | some rs => some (.list ((gsort lexL rs).map rowD))
    | none => none)) else none
def dSorted : PyData → Option PyData
  | .list xs => sortD xs
  | .tuple xs => sortD xs
  | _ => none
def eSorted : FE → FE := e1 dSorted true
theorem lfsI : ∀ ns : List Int, lfs (ns.map .int) = true
  | [] => rfl
  | n :: ns => by simp [lfs, lf, lfsI ns]
theorem lfR (r : List Int) : lf (rowD r) = true := by simp [rowD, lf, lfsI]
theorem lfsR : ∀ rs : List (List Int), lfs (rs.map rowD) = true
  | [] => rfl
  | r :: rs => by simp [lfs, lfR, lfsR rs]
theorem intsOf_map : ∀ ns : List Int, intsOf (ns.map .int) = some ns
  | [] => rfl
  | n :: ns => by simp [intsOf, intsOf_map ns]
theorem rowsOf_map : ∀ rs : List (List Int), rowsOf (rs.map rowD) = some rs
  | [] => rfl
  | r :: rs => by
    show (match intsOf (r.map .int), rowsOf (rs.map rowD) with
      | some a, some b => some (a :: b)
      | _, _ => none) = _
    rw [intsOf_map, rowsOf_map rs]
theorem sortD_ints {ns : List Int} (h : ns.length < 64) : sortD (ns.map .int) = some (.list ((gsort ltI ns).map .int)) := by
  unfold sortD
  rw [if_pos (by simpa using h), intsOf_map]
theorem sortD_rows {rs : List (List Int)} (h : rs.length < 64) : sortD (rs.map rowD) = some (.list ((gsort lexL rs).map rowD)) := by
  unfold sortD
  rw [if_pos (by simpa using h)]
  cases rs with
  | nil => rfl
  | cons r rs => rw [show intsOf ((r :: rs).map rowD) = none from rfl, rowsOf_map]
/-! ### a list that is lent to a def: it is changed there -/
/-- what a call with a lent list is worth: an error or nothing, and the list behind it -/
abbrev FL := List PyData → Option (Option Nat × List PyData)
def sAppendT (i : Nat) (f : FE) : FS := fun ρ => match ρ[i]? with
  | some (some (.lent xs)) => bindS (f ρ) ρ fun _ d => if (lf d && decide (xs.length < big)) = true then some (.next (ρ.set i (some (.lent (xs ++ [d]))))) else none
  | _ => none
/-! ### x < y of whole numbers, texts, tuples of these -/
mutual
def ltD : PyData → PyData → Option Bool
  | .int i, .int j => some (decide (i < j))
  | .str x, .str y => some (decide (x.cps.toList < y.cps.toList))
  | .tuple xs, .tuple ys => ltDs xs ys
  | _, _ => none
def ltDs : List PyData → List PyData → Option Bool
  | [], [] => some false
  | [], _ :: _ => some true
  | _ :: _, [] => some false
  | x :: xs, y :: ys => if PyData.eqv x y = true then ltDs xs ys else ltD x y
end
def dLtG (x y : PyData) : Option PyData := if (x.canLay0 && y.canLay0 && decide (x.depth ≤ 60)) = true then (ltD x y).map .bool else none
def eLtG : FE → FE → FE := e2 dLtG true
/-! ### a row that is handed down: each def appends to it and gives a value -/
/-- an argument: an expression without lists, a name, a name at a place -/
inductive Arg where
  | f (e : FE)
  | n (j : Nat)
  | x (j k : Nat)
def slotD : Option (Option Slot) → Option PyData
  | some (some (.par d)) => some d
  | some (some (.loc d)) => some d
  | some (some (.own ds)) => some (.list ds)
  | _ => none
def argD (i : Nat) (ρ : Rho) : Arg → Option PyData
  | .f e => (match e ρ with
    | some (.ok _ d) => if lf d = true then some d else none
    | _ => none)
  | .n j => if j = i then none else slotD ρ[j]?
  | .x j k => if j = i then none else (match slotD ρ[j]? with
    | some (.list ds) => ds[k]?
    | _ => none)
def argsD (i : Nat) (ρ : Rho) : List Arg → Option (List PyData)
  | [] => some []
  | a :: as => match argD i ρ a, argsD i ρ as with
    | some d, some ds => some (d :: ds)
    | _, _ => none
/-- what is one's own is no more so -/
def dem1 : Option Slot → Option Slot
  | some (.own ds) => some (.loc (.list ds))
  | some (.own2 ds) => some (.loc (.list ds))
  | some (.par d) => some (.par d)
  | some (.loc d) => some (.loc d)
  | some (.ex c) => some (.ex c)
  | _ => none
def rowL (ρ : Rho) (i : Nat) : Option (List PyData) := match (ρ[i]? : Option (Option Slot)) with
  | some (some (.own ds)) => some ds
  | some (some (.lent ds)) => some ds
  | _ => none
def rowS (ρ : Rho) (i : Nat) (ds : List PyData) : Option Slot := match (ρ[i]? : Option (Option Slot)) with
  | some (some (.own _)) => some (.own ds)
  | some (some (.lent _)) => some (.lent ds)
  | _ => none
def demE (ρ : Rho) (i : Nat) (ds : List PyData) : Rho := (ρ.map dem1).set i (rowS ρ i ds)
abbrev FR := List PyData → List PyData → Option (PyData × List PyData)
def callR (g : FR) (as : List Arg) (i : Nat) (ρ : Rho) : Option (PyData × List PyData) := match argsD i ρ as, rowL ρ i with
  | some ds, some rs => g ds rs
  | _, _ => none
/-- x_j = g(.., row) -/
def sXset (j : Nat) (g : FR) (as : List Arg) (i : Nat) : FS := fun ρ => match callR g as i ρ with
  | some (d, rs) => if j = i then none else some (.next ((demE ρ i rs).set j (some (.par d))))
  | none => none
def sXexpr (g : FR) (as : List Arg) (i : Nat) : FS := fun ρ => match callR g as i ρ with
  | some (_, rs) => some (.next (demE ρ i rs))
  | none => none
def isLent (ρ : Rho) (i : Nat) : Bool := match (ρ[i]? : Option (Option Slot)) with
  | some (some (.lent _)) => true
  | _ => false
def sXret (g : FR) (as : List Arg) (i : Nat) : FS := fun ρ => match callR g as i ρ with
  | some (d, rs) => if isLent ρ i = true then some (.retL d rs) else none
  | none => none
/-- return tuple(g(.., row)) -/
def sXretT (g : FR) (as : List Arg) (i : Nat) : FS := fun ρ => match callR g as i ρ with
  | some (.list xs, rs) => if (isLent ρ i && lfs xs) = true then some (.retL (.tuple xs) rs) else none
  | _ => none
/-- return e, e new or without lists -/
def sRetL (i : Nat) (f : FE) : FS := fun ρ => match (ρ[i]? : Option (Option Slot)) with
  | some (some (.lent rs)) => bindS (f ρ) ρ fun l d => if (lf d || decide (2 ≤ l)) = true then some (.retL d rs) else none
  | _ => none
/-- return x_j -/
def sRetN (i j : Nat) : FS := fun ρ => match (ρ[i]? : Option (Option Slot)) with
  | some (some (.lent rs)) => (match (if j = i then none else slotD ρ[j]?) with
    | some d => some (.retL d rs)
    | none => none)
  | _ => none
/-- return [x_j, x_k] -/
def sRetP (i j k : Nat) : FS := fun ρ => match (ρ[i]? : Option (Option Slot)) with
  | some (some (.lent rs)) => (match (if j = i then none else slotD ρ[j]?), (if k = i then none else slotD ρ[k]?) with
    | some d, some e => some (.retL (.list [d, e]) rs)
    | _, _ => none)
  | _ => none
def runRw (n : Nat) (b : FS) : FR := fun args ds => match b (args.map (fun d => some (.par d)) ++ some (.lent ds) :: List.replicate (n - args.length - 1) none) with
  | some (.retL d ds') => some (d, ds')
  | _ => none
/-- x_j = x_i, both lists of one's own: x_i is no more told of -/
def sMove (j i : Nat) : FS := fun ρ => match ρ[i]? with
  | some (some (.own ds)) => if i = j then none else some (.next ((ρ.set i none).set j (some (.own ds))))
  | _ => none
/-- x_i.append(x_j.pop(0)) -/
def sAppPop (i j : Nat) : FS := fun ρ => match ρ[i]? with
  | some (some (.own xs)) => (match ρ[j]? with
    | some (some (.own (y :: ys))) => if i ≠ j ∧ xs.length < big ∧ lf y = true then some (.next ((ρ.set j (some (.own ys))).set i (some (.own (xs ++ [y]))))) else none
    | _ => none)
  | _ => none
/-! ### (1,) * n -/
def dMulT : PyData → PyData → Option PyData
  | .tuple xs, .int k => if (lfs xs && decide (xs.length * k.toNat ≤ big) && decide (k.natAbs ≤ big) && decide (0 < xs.length)) = true then some (.tuple (List.replicate k.toNat xs).flatten) else none
  | _, _ => none
def eMulT : FE → FE → FE := e2 dMulT true
end KT
set_option Elab.async false
set_option linter.all false
set_option maxRecDepth 100000
namespace KT
open PySem PySem.W PyProof.Rows
/-! ### one row that rises, of given keys -/
section
variable {O : KeyOrd}
theorem gins_perm (x : O.α) : ∀ l : List O.α, (gins O.blt x l).Perm (x :: l)
  | [] => .refl _
  | y :: ys => by
    unfold gins
    split
    · exact ((gins_perm x ys).cons y).trans (.swap x y ys)
    · exact .refl _
theorem gsort_perm : ∀ l : List O.α, (gsort O.blt l).Perm l
  | [] => .refl _
  | x :: xs => (gins_perm x _).trans ((gsort_perm xs).cons x)
theorem gins_rise (x : O.α) : ∀ l : List O.α, l.Pairwise O.kle → (gins O.blt x l).Pairwise O.kle
  | [], _ => by unfold gins; exact .cons (fun _ h => by cases h) .nil
  | y :: ys, h => by
    unfold gins
    cases h with
    | cons h1 h2 =>
      split
      · rename_i c
        refine .cons (fun z hz => ?_) (gins_rise x ys h2)
        rcases List.mem_cons.mp ((gins_perm x ys).mem_iff.mp hz) with rfl | hz
        · exact kle_of_yes c
        · exact h1 z hz
      · rename_i c
        have hxy : O.kle x y := by
          cases e : O.blt y x with
          | true => exact absurd e c
          | false => exact e
        refine .cons (fun z hz => ?_) (.cons h1 h2)
        rcases List.mem_cons.mp hz with rfl | hz
        · exact hxy
        · exact KeyOrd.kle_trans hxy (h1 z hz)
theorem gsort_rise : ∀ l : List O.α, (gsort O.blt l).Pairwise O.kle
  | [] => .nil
  | x :: xs => gins_rise x _ (gsort_rise xs)
theorem gsort_uniq {l ks : List O.α} (hp : l.Perm ks) (hs : l.Pairwise O.kle) : l = gsort O.blt ks :=
  List.Perm.eq_of_pairwise (fun a b _ _ h1 h2 => O.total a b h2 h1) hs (gsort_rise ks) (hp.trans (gsort_perm ks).symm)
/-- what the sort's row of places is, read as keys -/
theorem sort_keys {ks : List O.α} {d : O.α} {p : Array Nat} (hp : p.Perm (List.toArray (List.range ks.length))) (hr : Rise (fun i => ks.getD i d) p ks.length) : p.toList.map (fun i => ks.getD i d) = gsort O.blt ks := by
  have hl : p.toList.Perm (List.range ks.length) := by simpa using Array.perm_iff_toList_perm.mp hp
  refine gsort_uniq ?_ ?_
  · have e : (List.range ks.length).map (fun i => ks.getD i d) = ks := by
      apply List.ext_getElem (by simp)
      intro i h1 h2
      simp [h2]
    exact (hl.map _).trans (by rw [e])
  · rw [List.pairwise_iff_getElem]
    intro i j hi hj hij
    have hz : p.size = ks.length := by simpa using hl.length_eq
    have hi' : i < p.size := by simpa using hi
    have hj' : j < p.size := by simpa using hj
    have := hr i j (Nat.le_of_lt hij) (by omega)
    unfold Ky at this
    simpa [Array.getD, hi', hj'] using this
end
/-! ### the builtin itself, over a bare heap -/
section
variable {prog : Program} {w : World} {A : Around} {E : Value → Shared → Prop} {s : Shared}
/-- what stays: every object but one -/
def But (a : Addr) (h h' : Heap) : Prop := ∀ b o, b ≠ a → h.get? b = some o → h'.get? b = some o
theorem but_set {a : Addr} {h : Heap} {f : Obj → Obj} : But a h (h.update a f) := fun b o hb e => by rw [Heap.get?_update_ne _ _ _ _ hb]; exact e
theorem but_new {a : Addr} {h h' : Heap} {o : Obj} (k : But a h h') : But a h (h'.push o) := fun b x hb e => Heap.get?_push_of_some _ (k b x hb e)
theorem But.trans {a : Addr} {h h' h2 : Heap} (k : But a h h') (k2 : But a h' h2) : But a h h2 := fun b o hb e => k2 b o hb (k b o hb e)
/-- a question of the sort that leaves the state alike -/
def Asks (prog : Program) (w : World) (A : Around) (s : Shared) (a : Addr) (vs : List Value) (kd : SortKind) (lt : Nat → Nat → Bool) : Prop :=
  (∀ h', But a s.heap h' → ∀ Q : SortKind → Shared → Prop, Q kd { s with heap := h' } → wpAny (model prog w) A (keyKind' vs.toArray) Q (fun _ _ => False) { s with heap := h' }) ∧
  ∀ h', But a s.heap h' → ∀ i j, i < vs.length → j < vs.length → ∀ C : Bool → Shared → Prop, C (lt i j) { s with heap := h' } → kas_ask prog w A kd vs i j C { s with heap := h' }
theorem lsort_raw {O : KeyOrd} {κ : Nat → O.α} {kd : SortKind} {a : Addr} {vs : List Value} {n : Nat} {P : PySem.Fin → Shared → Prop} (ho : s.heap.get? a = some (seqObj "list" vs.toArray n)) (h64 : vs.length < 64)
    (q : 2 ≤ vs.length → Asks prog w A s a vs kd (lto κ))
    (h : ∀ (p : Array Nat) h' c, p.Perm (List.toArray (List.range vs.length)) → Rise κ p vs.length → But a s.heap h' → h'.get? a = some (seqObj "list" (List.toArray (p.toList.map fun i => vs.getD i Value.none)) c) → P (.done (.ret .none)) { s with heap := h' }) :
    wpAny (model prog w) A (Builtin.«list.sort» ⟨[.ref a], []⟩) P E s := by
  have big : (64 : Nat) < sizeLine := by rw [sizeLine_eq]; decide
  obtain ⟨e1, ho1⟩ : ∃ c, (s.heap.update a (Obj.mapSeq fun _ => (#[] : Array Value))).get? a = some (seqObj "list" #[] c) := ⟨_, get?_update_seq ho fun _ => #[]⟩
  let h6 : Heap := ((s.heap.update a (Obj.mapSeq fun _ => (#[] : Array Value))).push (seqObj "tuple" vs.toArray 0)).push (seqObj "list" #[] 0)
  have k6 : But a s.heap h6 := but_new (but_new but_set)
  have ho6 : h6.get? a = some (seqObj "list" #[] e1) := Heap.get?_push_of_some _ (Heap.get?_push_of_some _ ho1)
  have fin : ∀ (p : Array Nat), p.Perm (List.toArray (List.range vs.length)) → Rise κ p vs.length → ∀ (st : SortSt), (arrOf st).map (·.2) = List.toArray (p.toList.map fun i => vs.getD i Value.none) → failedOf st = none →
      wpAny (model prog w) A (do
        let sorted := (arrOf st).map (·.2)
        let touched := (← seqEpoch a) != e1
        Builtin.List.listUpdate (.ref a) fun _ => sorted
        if let some e := failedOf st then rule "list.sort.comparison-raised"; throw e
        if touched then rule "list.sort.modified"; raiseError "ValueError" "list modified during sort"
        ret .none) P E { s with heap := h6 } := by
    intro p hp hr st hst hf
    dsimp only
    have hz : (List.toArray (p.toList.map fun i => vs.getD i Value.none)).size = vs.length := by
      have := hp.size_eq
      simpa using this
    rw [hst, hf]
    refine wpAny_bind (seqEpoch_at ho6 rfl (wpAny_bind (listUpdate_at ho6 rfl ?_ (Nat.zero_le _) (by omega))))
    simp only [bne_self_eq_false, Bool.false_eq_true, if_false]
    exact wpAny_pure (h p _ _ hp hr (k6.trans but_set) (get?_update_seq ho6 _))
  rw [list_sort_plain]
  refine wpAny_bind (listItems_at ho rfl (wpAny_bind (listUpdate_at ho rfl ?_ (by rw [List.size_toArray]; omega) (Nat.zero_le _))))
  refine wpAny_bind (seqEpoch_at ho1 rfl (wpAny_bind (wpAny_newTuple ?_ (by show vs.length ≤ _; omega))))
  refine wpAny_bind (wpAny_newList (wpAny_holding ?_) (Nat.zero_le _))
  show wpAny (model prog w) A _ P E { s with heap := h6 }
  dsimp only
  by_cases h2 : vs.toArray.size < 2
  · rw [if_pos h2, if_pos h2]
    refine wpAny_bind (wpAny_pure ?_)
    rw [StateT.run_pure]
    refine wpAny_bind (wpAny_pure (fin (List.toArray (List.range vs.length)) (.refl _) (fun i j h1 h3 => ?_) _ ?_ rfl))
    · have : i = j := by rw [List.size_toArray] at h2; omega
      subst this
      exact KeyOrd.kle_refl _
    · match vs, h2 with
      | [], _ => show Array.map (fun x : Value × Value => x.snd) ((#[] : Array Value).zip #[]) = _; simp
      | [v], _ => show Array.map (fun x : Value × Value => x.snd) (#[v].zip #[v]) = _; simp
      | _ :: _ :: _, h2 => exact absurd h2 (by simp)
  · have h2' : 2 ≤ vs.length := by rw [List.size_toArray] at h2; omega
    rw [if_neg h2, if_neg h2]
    obtain ⟨q1, q2⟩ := q h2'
    refine wpAny_bind (wpAny_mono (q1 h6 k6 (fun k s' => k = kd ∧ s' = { s with heap := h6 }) ⟨rfl, rfl⟩) ?_ fun _ _ x => x.elim)
    rintro k s' ⟨rfl, rfl⟩
    obtain ⟨p, ep, hp, hr⟩ := sort_ev (κ := κ) (n := vs.length) (by omega)
    have run := wp_run (s := { s with heap := h6 }) (G := fun p' s' => p' = p ∧ s' = { s with heap := h6 }) (q2 h6 k6) (kas_sort vs.length) (sort_run (by omega)) ⟨ep, rfl⟩
    refine wpAny_bind (wpAny_mono (kat_run (Q := fun st s' => s' = { s with heap := h6 } ∧ arrOf st = p.map (kas_item (vs.toArray.zip vs.toArray)) ∧ failedOf st = none) rfl h2' h64 (fun p' st s' _ a2 a3 a4 => ?_) run) ?_ fun _ _ e => e)
    · obtain ⟨rfl, rfl⟩ := a4
      exact ⟨rfl, a2, a3⟩
    · rintro ⟨⟨⟩, st⟩ s' ⟨rfl, har, hf⟩
      exact fin p hp hr st (kat_snds rfl har) hf
end
end KT
set_option Elab.async false
set_option linter.all false
set_option maxRecDepth 100000
namespace KT
open PySem PySem.W PyProof.Rows
section
variable {prog : Program} {w : World} {A : Around} {E : Value → Shared → Prop} {s : Shared}
def Ext (h h' : Heap) : Prop := ∀ b o, h.get? b = some o → h'.get? b = some o
/-- the items of a list or a tuple, taken together -/
theorem collect_seq {l : Addr} {vs : List Value} {o : Obj} {n : Nat} {Q : List Value → Shared → Prop} (ho : s.heap.get? l = some o) (hc : o.cls = .type "list" ∨ o.cls = .type "tuple") (hd : o.data = .seq vs.toArray n) (hz : vs.length < 64)
    (h : ∀ h', Ext s.heap h' → h'.objs.size = s.heap.objs.size + 1 → Q vs { s with heap := h' }) : wpAny (model prog w) A (collect (.ref l)) Q E s := by
  have big : (64 : Nat) < sizeLine := by rw [sizeLine_eq]; decide
  have hn : (s.heap.push (seqObj "list" #[] 0)).get? s.heap.objs.size = some (seqObj "list" #[] 0) := Heap.get?_push_size _ rfl
  have ho' : (s.heap.push (seqObj "list" #[] 0)).get? l = some o := Heap.get?_push_of_some _ ho
  unfold collect
  refine wpAny_bind (wpAny_runValue (codeAny_builtin entry_proto_collect' ?_))
  show wpAny _ _ (newList [] >>= fun x => again (.builtin "list.__iadd__" ⟨[x, .ref l], []⟩)) _ _ s
  refine wpAny_bind (wpAny_newList (wpAny_pure ⟨Code.quiet_builtin _ (by decide +kernel), codeAny_builtin entry_list_iadd' ?_⟩) (Nat.zero_le _))
  show wpAny _ _ (Builtin.List.listExtendWith (.ref s.heap.objs.size) (.ref l) (.ref s.heap.objs.size)) _ _ { s with heap := s.heap.push (seqObj "list" #[] 0) }
  have hk : Ext s.heap ((s.heap.push (seqObj "list" #[] 0)).update s.heap.objs.size (Obj.mapSeq (· ++ vs.toArray))) := fun b x e => by
    rw [Heap.get?_update_ne _ _ _ _ (Nat.ne_of_lt (Heap.lt_size e))]; exact Heap.get?_push_of_some _ e
  unfold Builtin.List.listExtendWith
  obtain ⟨T, hT, hb⟩ : ∃ T : String, o.cls = .type T ∧ ((Value.type T == Value.type "list") || (Value.type T == Value.type "tuple")) = true := by
    rcases hc with hc | hc
    · exact ⟨_, hc, by decide⟩
    · exact ⟨_, hc, by decide⟩
  refine wpAny_bind (wpAny_typeOf (T := T) ⟨o, ho', hT⟩ ?_)
  rw [if_pos (by rw [Bool.or_assoc, hb]; simp)]
  refine wpAny_bind (listItems_at ho' hd (wpAny_bind (listItems_at hn rfl ?_)))
  rw [if_neg (by simp)]
  refine wpAny_bind (listUpdate_at hn rfl ?_ (Nat.zero_le _) (by simp; omega))
  refine wpAny_pure ?_
  refine wpAny_bind (wpAny_load (get?_update_seq hn _) ?_)
  show wpAny _ _ (pure ((#[] : Array Value) ++ vs.toArray).toList) Q E _
  rw [show ((#[] : Array Value) ++ vs.toArray).toList = vs by simp]
  exact wpAny_pure (h _ hk (by rw [Heap.size_update, Heap.size_push]))
theorem sorted_raw {O : KeyOrd} {κ : Nat → O.α} {kd : SortKind} {l : Addr} {vs : List Value} {o : Obj} {n : Nat} {Q : Value → Shared → Prop} (ho : s.heap.get? l = some o) (hc : o.cls = .type "list" ∨ o.cls = .type "tuple") (hd : o.data = .seq vs.toArray n) (h64 : vs.length < 64)
    (q : 2 ≤ vs.length → ∀ h', Ext s.heap h' → (∀ Q : SortKind → Shared → Prop, Q kd { s with heap := h' } → wpAny (model prog w) A.in1.in1 (keyKind' vs.toArray) Q (fun _ _ => False) { s with heap := h' }) ∧
      ∀ i j, i < vs.length → j < vs.length → ∀ C : Bool → Shared → Prop, C (lto κ i j) { s with heap := h' } → wpAny (model prog w) A.in1.in1 (keyLt' kd (vs.getD i Value.none) (vs.getD j Value.none)) C (fun _ _ => False) { s with heap := h' })
    (h : ∀ (p : Array Nat) D h' c, p.Perm (List.toArray (List.range vs.length)) → Rise κ p vs.length → Ext s.heap h' → s.heap.objs.size ≤ D → h'.get? D = some (seqObj "list" (List.toArray (p.toList.map fun i => vs.getD i Value.none)) c) → Q (.ref D) { s with heap := h' }) :
    wpAny (model prog w) A (call (.builtin "sorted") [.ref l]) Q E s := by
  have big : (64 : Nat) < sizeLine := by rw [sizeLine_eq]; decide
  refine Calls.call_function_entry kind_sorted plain_sorted entry_sorted (args_sorted1 _) ?_
  unfold Builtin.«sorted»
  refine wpAny_bind (m := checkCount "sorted" 1 1 _) (wpAny_pure ?_)
  refine wpAny_bind (collect_seq ho hc hd h64 fun h1 k1 z1 => ?_)
  refine wpAny_bind (wpAny_newList ?_ (by omega))
  have hD : (h1.push (seqObj "list" vs.toArray 0)).get? h1.objs.size = some (seqObj "list" vs.toArray 0) := Heap.get?_push_size _ rfl
  have hlt : s.heap.objs.size ≤ h1.objs.size := by omega
  have up : ∀ h', But h1.objs.size (h1.push (seqObj "list" vs.toArray 0)) h' → Ext s.heap h' := fun h' k b x e =>
    k b x (Nat.ne_of_lt (Nat.lt_of_lt_of_le (Heap.lt_size e) hlt)) (Heap.get?_push_of_some _ (k1 b x e))
  refine wpAny_bind (wpAny_holding (wpAny_call_entry slot_list_sort ⟨_, hD, rfl⟩ entry_list_sort ?body (args_list_sort _)))
  case body =>
    refine lsort_raw (s := { s with heap := h1.push (seqObj "list" vs.toArray 0) }) (κ := κ) (kd := kd) hD h64 (fun h2 => ⟨fun h' k => (q h2 h' (up h' k)).1, fun h' k => (q h2 h' (up h' k)).2⟩) fun p h' c a1 a2 a3 a4 => ?_
    exact ⟨_, rfl, wpAny_pure ⟨_, rfl, h p _ h' c a1 a2 (up h' a3) hlt a4⟩⟩
/-! whole numbers -/
def intOrd : KeyOrd where
  α := Int
  blt := fun a b => decide (a < b)
  irrefl := fun a => by simp
  trans := fun a b c h1 h2 => by simp at *; omega
  negTrans := fun a b c h => by simp at *; omega
  total := fun a b h1 h2 => by simp at *; omega
theorem lex_irrefl : ∀ a : List Int, HT.lexLt a a = false
  | [] => rfl
  | x :: xs => by rw [HT.lexLt_cons, if_pos rfl]; exact lex_irrefl xs
theorem lex_trans : ∀ a b c : List Int, HT.lexLt a b = true → HT.lexLt b c = true → HT.lexLt a c = true
  | [], [], [], h1, _ => by cases h1
  | [], _ :: _, [], _, h2 => by cases h2
  | [], _, _ :: _, _, _ => rfl
  | x :: xs, [], _, h1, _ => by cases h1
  | x :: xs, y :: ys, [], _, h2 => by cases h2
  | x :: xs, y :: ys, z :: zs, h1, h2 => by
    rw [HT.lexLt_cons] at *
    by_cases e1 : x = y
    · rw [if_pos e1] at h1
      by_cases e2 : y = z
      · rw [if_pos e2] at h2; rw [if_pos (e1.trans e2)]; exact lex_trans xs ys zs h1 h2
      · rw [if_neg e2] at h2; rw [if_neg (by rw [e1]; exact e2), e1]; exact h2
    · rw [if_neg e1] at h1
      have l1 := of_decide_eq_true h1
      by_cases e2 : y = z
      · rw [if_neg (by rw [← e2]; exact e1), ← e2]; exact h1
      · rw [if_neg e2] at h2
        have l2 := of_decide_eq_true h2
        rw [if_neg (by omega)]; exact decide_eq_true (by omega)
theorem lex_neg : ∀ a b c : List Int, HT.lexLt a c = true → HT.lexLt a b = true ∨ HT.lexLt b c = true
  | [], [], _, h => .inr h
  | [], _ :: _, _, _ => .inl rfl
  | x :: xs, _, [], h => by cases h
  | x :: xs, [], z :: zs, _ => .inr rfl
  | x :: xs, y :: ys, z :: zs, h => by
    rw [HT.lexLt_cons] at *
    by_cases e : x = z
    · rw [if_pos e] at h
      by_cases e1 : x = y
      · rw [if_pos e1, HT.lexLt_cons, if_pos (e1.symm.trans e)]; exact lex_neg xs ys zs h
      · rw [if_neg e1, HT.lexLt_cons, if_neg (by rw [← e]; exact fun q => e1 q.symm)]
        by_cases l : x < y
        · exact .inl (decide_eq_true l)
        · exact .inr (decide_eq_true (by omega))
    · rw [if_neg e] at h
      have l := of_decide_eq_true h
      by_cases e1 : x = y
      · right; rw [HT.lexLt_cons, if_neg (by rw [← e1]; exact e)]; exact decide_eq_true (by omega)
      · rw [if_neg e1]
        by_cases l1 : x < y
        · exact .inl (decide_eq_true l1)
        · right; rw [HT.lexLt_cons, if_neg (by omega)]; exact decide_eq_true (by omega)
theorem lex_total : ∀ a b : List Int, HT.lexLt a b = false → HT.lexLt b a = false → a = b
  | [], [], _, _ => rfl
  | [], _ :: _, h, _ => by cases h
  | _ :: _, [], _, h => by cases h
  | x :: xs, y :: ys, h1, h2 => by
    rw [HT.lexLt_cons] at *
    by_cases e : x = y
    · rw [if_pos e] at h1; rw [if_pos e.symm] at h2; rw [e, lex_total xs ys h1 h2]
    · rw [if_neg e] at h1; rw [if_neg (fun q => e q.symm)] at h2
      have l1 := of_decide_eq_false h1
      have l2 := of_decide_eq_false h2
      omega
def rowOrd : KeyOrd := { α := List Int, blt := HT.lexLt, irrefl := lex_irrefl, trans := lex_trans, negTrans := lex_neg, total := lex_total }
theorem ints_at {vs : List Value} {ns : List Int} (h : IntsAre vs ns) {i : Nat} (hi : i < vs.length) : ∃ t, vs.getD i Value.none = .int (ns.getD i 0) t := by
  induction h generalizing i with
  | nil => simp at hi
  | cons n t _ ih =>
    cases i with
    | zero => exact ⟨t, rfl⟩
    | succ i => exact ih (by simpa using hi)
theorem asks_ints {vs : List Value} {ns : List Int} (hI : IntsAre vs ns) (h2 : 2 ≤ vs.length) :
    (∀ Q : SortKind → Shared → Prop, Q oneType' s → wpAny (model prog w) A (keyKind' vs.toArray) Q (fun _ _ => False) s) ∧
      ∀ i j, i < vs.length → j < vs.length → ∀ C : Bool → Shared → Prop, C (lto (O := intOrd) (fun k => ns.getD k 0) i j) s → wpAny (model prog w) A (keyLt' oneType' (vs.getD i Value.none) (vs.getD j Value.none)) C (fun _ _ => False) s := by
  refine ⟨fun Q hq => ?_, fun i j hi hj C hC => ?_⟩
  · match vs, hI, h2 with
    | v₁ :: v₂ :: rest, hI, _ => rw [keyKind_ints hI]; exact wpAny_pure hq
    | [_], _, h2 => exact absurd h2 (by simp)
    | [], _, h2 => exact absurd h2 (by simp)
  · obtain ⟨t, e⟩ := ints_at hI hi
    obtain ⟨u, e'⟩ := ints_at hI hj
    rw [e, e']
    exact kat_lt_int hC
end
end KT
set_option Elab.async false
set_option linter.all false
set_option maxRecDepth 100000
namespace KT
open PySem PySem.W PyProof.Rows
/-! ### rows of whole numbers: tuples -/
def RowsAre (h : Heap) : List Value → List (List Int) → Prop
  | [], [] => True
  | v :: vs, r :: rs => (∃ (a : Addr) (o : Obj) (xs : Array Value) (n : Nat), v = .ref a ∧ h.get? a = some o ∧ o.cls = .type "tuple" ∧ o.data = .seq xs n ∧ IntsAre xs.toList r) ∧ RowsAre h vs rs
  | _, _ => False
theorem RowsAre.length {h : Heap} : ∀ {vs : List Value} {rs : List (List Int)}, RowsAre h vs rs → vs.length = rs.length
  | [], [], _ => rfl
  | [], _ :: _, h => h.elim
  | _ :: _, [], h => h.elim
  | _ :: vs, _ :: rs, h => by simp [h.2.length]
theorem RowsAre.ext {h h' : Heap} (k : Ext h h') : ∀ {vs : List Value} {rs : List (List Int)}, RowsAre h vs rs → RowsAre h' vs rs
  | [], [], _ => trivial
  | [], _ :: _, h => h.elim
  | _ :: _, [], h => h.elim
  | _ :: vs, _ :: rs, ⟨⟨a, o, xs, n, e, ho, r⟩, t⟩ => ⟨⟨a, o, xs, n, e, k _ _ ho, r⟩, t.ext k⟩
theorem RowsAre.at_ {h : Heap} : ∀ {vs : List Value} {rs : List (List Int)} {i : Nat}, RowsAre h vs rs → i < vs.length →
    ∃ (a : Addr) (o : Obj) (xs : Array Value) (n : Nat), vs.getD i Value.none = .ref a ∧ h.get? a = some o ∧ o.cls = .type "tuple" ∧ o.data = .seq xs n ∧ IntsAre xs.toList (rs.getD i [])
  | [], [], _, _, hi => by simp at hi
  | [], _ :: _, _, h, _ => h.elim
  | _ :: _, [], _, h, _ => h.elim
  | _ :: vs, _ :: rs, 0, h, _ => h.1
  | _ :: vs, _ :: rs, i + 1, h, hi => by
    have := RowsAre.at_ (i := i) h.2 (by simpa using hi)
    simpa using this
section
variable {M : Model} {prog : Program} {w : World} {A : Around} {E : Value → Shared → Prop} {s : Shared}
theorem firsts_rows : ∀ {vs : List Value} {rs : List (List Int)}, RowsAre s.heap vs rs →
    ∃ fs : List (Option Value), fs.map Option.isSome = rs.map (fun r => !r.isEmpty) ∧ (rs.all (fun r => !r.isEmpty) = true → ∃ gs, fs = gs.map some ∧ KatTups s.heap vs gs ∧ ∀ g ∈ gs, ∃ n t, g = .int n t) ∧ ∀ Q : List (Option Value) → Shared → Prop, Q fs s → wpAny M A (vs.mapM firstOfTuple') Q E s
  | [], [], _ => ⟨[], rfl, fun _ => ⟨[], rfl, trivial, fun _ h => by cases h⟩, fun Q h => by rw [List.mapM_nil]; exact wpAny_pure h⟩
  | [], _ :: _, h => h.elim
  | _ :: _, [], h => h.elim
  | v :: vs, r :: rs, ⟨⟨a, o, xs, n, e, ho, hc, hd, hi⟩, t⟩ => by
    subst e
    obtain ⟨fs, f1, f2, f3⟩ := firsts_rows t
    refine ⟨xs[0]? :: fs, ?_, fun hall => ?_, fun Q h => ?_⟩
    · have : xs[0]?.isSome = !r.isEmpty := by
        rw [← Array.getElem?_toList]
        generalize xs.toList = xl at hi
        cases hi <;> rfl
      simp [this, f1]
    · simp only [List.all_cons, Bool.and_eq_true] at hall
      obtain ⟨gs, g1, g2, g3⟩ := f2 hall.2
      rw [← Array.getElem?_toList]
      have h0 : ∃ m u, xs[0]? = some (.int m u) := by
        rw [← Array.getElem?_toList]
        generalize xs.toList = xl at hi
        cases hi with
        | nil => simp at hall
        | cons m u _ => exact ⟨m, u, rfl⟩
      obtain ⟨m, u, e0⟩ := h0
      refine ⟨.int m u :: gs, ?_, KatTups.cons ho hc hd e0 g2, fun g hg => ?_⟩
      · rw [Array.getElem?_toList, e0, g1]; rfl
      · rcases List.mem_cons.mp hg with rfl | hg
        · exact ⟨m, u, rfl⟩
        · exact g3 g hg
    · rw [List.mapM_cons]
      refine wpAny_bind ?_
      rw [kas_first_eq]
      refine wpAny_bind (Looks.here ((Looks.ld ho).andThen .now : Looks M s.heap (typeOf (.ref a)) o.cls) ?_)
      rw [hc, if_neg (by decide)]
      refine wpAny_bind (listItems_at ho hd (wpAny_pure ?_))
      exact wpAny_bind (f3 (fun bs s' => wpAny M A (pure (xs[0]? :: bs)) Q E s') (wpAny_pure h))
theorem types_rows : ∀ {vs : List Value} {rs : List (List Int)}, RowsAre s.heap vs rs → ∀ v ∈ vs, Looks M s.heap (typeOf v) (.type "tuple")
  | [], _, _, v, hv => by cases hv
  | _ :: _, [], h, _, _ => h.elim
  | v :: vs, r :: rs, ⟨⟨a, o, xs, n, e, ho, hc, hd, hi⟩, t⟩, u, hu => by
    rcases List.mem_cons.mp hu with rfl | hu
    · subst e
      rw [← hc]
      exact (Looks.ld ho).andThen .now
    · exact types_rows t u hu
noncomputable def kdOf (rs : List (List Int)) : SortKind := if rs.all (fun r => !r.isEmpty) = true then tuples' true else if (rs.map (fun r => !r.isEmpty)).head? = some true then general' else oneType'
theorem kind_rows {vs : List Value} {rs : List (List Int)} (R : RowsAre s.heap vs rs) (h2 : 2 ≤ vs.length) {Q : SortKind → Shared → Prop} (h : Q (kdOf rs) s) : wpAny M A (keyKind' vs.toArray) Q E s := by
  unfold kdOf at h
  obtain ⟨fs, f1, f2, f3⟩ := firsts_rows (E := E) (A := A) (M := M) R
  by_cases hall : rs.all (fun r => !r.isEmpty) = true
  · rw [if_pos hall] at h
    obtain ⟨gs, g1, g2, g3⟩ := f2 hall
    have hl : gs.length = vs.length := by
      have := congrArg List.length f1
      rw [g1] at this
      simp at this
      rw [R.length]; exact this
    refine kat_kind (T := .type "int") g2 (by omega) (fun v hv => ?_) rfl h
    obtain ⟨n, t, rfl⟩ := g3 v hv
    exact Looks.of_pure rfl
  · rw [if_neg hall] at h
    rw [kat_kind_eq, List.mapM_toArray, map_eq_pure_bind]; refine wpAny_bind (wpAny_bind (f3 _ (wpAny_pure ?_)))
    have hn : ¬ (fs.toArray.all (·.isSome) = true) := by
      intro q
      apply hall
      have e : fs.all Option.isSome = rs.all (fun r => !r.isEmpty) := by
        have := congrArg (fun l => l.all id) f1
        simpa [List.all_map] using this
      rw [← e]
      simpa using q
    rw [if_neg hn]
    have hh : ((fs.toArray)[0]?.bind id).isSome = ((rs.map (fun r => !r.isEmpty)).head? == some true) := by
      rw [← f1]
      cases fs with
      | nil => rfl
      | cons x xs => cases x <;> rfl
    by_cases hf : (rs.map (fun r => !r.isEmpty)).head? = some true
    · rw [if_pos hf] at h
      rw [if_pos (by rw [hh, hf]; rfl)]
      exact wpAny_pure h
    · rw [if_neg hf] at h
      rw [if_neg (by rw [hh]; intro q; exact hf (by simpa using q))]
      rw [oneTypeOnly'_eq, List.mapM_toArray, map_eq_pure_bind]
      refine wpAny_bind (wpAny_bind (wpAny_bind (kas_mapM (r := .type "tuple") _ (fun v hv Q' hq => (types_rows R v hv).here hq) (wpAny_pure ?_))))
      have hall2 : ((List.map (fun _ => Value.type "tuple") vs).toArray.all fun x => x == Value.type "tuple") = true := by
        simp only [List.all_toArray, List.all_map, List.all_eq_true]; exact fun _ _ => rfl
      have h0 : (List.map (fun _ => Value.type "tuple") vs).toArray[0]? = some (Value.type "tuple") := by
        cases vs with
        | nil => simp at h2
        | cons v r => simp
      rw [h0]
      simp only [hall2, if_true]; exact wpAny_pure (wpAny_pure h)
theorem lex_ints {b : Bool} {Q : Bool → Shared → Prop} : ∀ {xs ys : List Value} {ns ms : List Int} {i : Nat} {fin : Bool}, IntsAre xs ns → IntsAre ys ms → fin = decide (ns.length < ms.length) → Q (HT.lexLt ns ms) s → KatLex prog w A b fin Q (xs.zip ys) i s
  | _, _, _, _, _, _, .nil, .nil, hf, h => by subst hf; exact kat_nil h
  | _, _, _, _, _, _, .nil, .cons _ _ _, hf, h => by subst hf; exact kat_nil (by simpa [HT.lexLt_nil_cons] using h)
  | _, _, _, _, _, _, .cons _ _ _, .nil, hf, h => by subst hf; exact kat_nil (by simpa [HT.lexLt_cons_nil] using h)
  | _, _, _, _, i, _, .cons n t hx, .cons m u hy, hf, h => by
    rw [List.zip_cons_cons]
    rw [HT.lexLt_cons] at h
    refine kat_cons (wpAny_eqBool_int ?_)
    by_cases e : n = m
    · rw [if_pos e] at h
      rw [show (n == m) = true by simpa using e]
      exact kat_yes (lex_ints hx hy (by rw [hf]; simp) h)
    · rw [if_neg e] at h
      rw [show (n == m) = false by simpa using e]
      refine kat_no ?_
      cases hb : (b && i == 0) with
      | true => exact oneLt_int h
      | false => exact kat_one _ _ (lt_int h)
theorem lt_rows {vs : List Value} {rs : List (List Int)} (R : RowsAre s.heap vs rs) (kd : SortKind) (hk : kd = tuples' true ∨ kd = general' ∨ kd = oneType') (hu : A.units < cLine) {i j : Nat} (hi : i < vs.length) (hj : j < vs.length) {Q : Bool → Shared → Prop}
    (h : Q (HT.lexLt (rs.getD i []) (rs.getD j [])) s) : wpAny (model prog w) A (keyLt' kd (vs.getD i Value.none) (vs.getD j Value.none)) Q E s := by
  obtain ⟨a, o, xs, n, ea, ho, hc, hd, ia⟩ := R.at_ hi
  obtain ⟨b, o2, ys, n2, eb, ho2, hc2, hd2, ib⟩ := R.at_ hj
  rw [ea, eb]
  rcases hk with rfl | rfl | rfl
  · exact kat_lt ho hd ho2 hd2 (lex_ints ia ib (by rw [← ia.length, ← ib.length]; simp) h)
  · refine kat_one _ _ (HT.lt_tupInts ⟨o, ho, hc, n, hd⟩ ⟨o2, ho2, hc2, n2, hd2⟩ ia ib hu ?_)
    exact h
  · rw [keyLt'_oneType, oneLt'_eq]
    simp only [if_true]
    refine wpAny_bind (wpAny_cRoomFor hu ?_)
    obtain ⟨cls, dd, data, sl⟩ := o
    obtain ⟨cls2, dd2, data2, sl2⟩ := o2
    simp only at hc hd hc2 hd2
    subst hc hd hc2 hd2
    refine wpAny_bind (wpAny_callSpecialIfBound?_slot (T := "tuple") ⟨_, ho, rfl⟩ PySem.F.slot_tuple_lt (call_meets PySem.F.slot_tuple_lt ⟨_, ho, rfl⟩ PySem.F.entry_tuple_lt (PySem.F.args_tuple_lt_2 _ _) (HT.tuple_lt_ints a b xs ys n n2 dd dd2 sl sl2 _ _ ia ib) ⟨ho, ho2, ?_⟩))
    exact wpAny_truthy_bool h
theorem kd_cases (rs : List (List Int)) : kdOf rs = tuples' true ∨ kdOf rs = general' ∨ kdOf rs = oneType' := by
  unfold kdOf
  split
  · exact .inl rfl
  · split
    · exact .inr (.inl rfl)
    · exact .inr (.inr rfl)
theorem asks_rows {vs : List Value} {rs : List (List Int)} (R : RowsAre s.heap vs rs) (h2 : 2 ≤ vs.length) (hu : A.units < cLine) :
    (∀ Q : SortKind → Shared → Prop, Q (kdOf rs) s → wpAny (model prog w) A (keyKind' vs.toArray) Q (fun _ _ => False) s) ∧
      ∀ i j, i < vs.length → j < vs.length → ∀ C : Bool → Shared → Prop, C (lto (O := rowOrd) (fun k => rs.getD k []) i j) s → wpAny (model prog w) A (keyLt' (kdOf rs) (vs.getD i Value.none) (vs.getD j Value.none)) C (fun _ _ => False) s :=
  ⟨fun Q hq => kind_rows R h2 hq, fun i j hi hj C hC => lt_rows R _ (kd_cases rs) hu hi hj hC⟩
end
end KT
set_option Elab.async false
set_option linter.all false
set_option maxRecDepth 100000
namespace KT
open PySem PySem.Spec PyProof.Rows L2
/-! ### sorted, of a list or a tuple of whole numbers, or of rows of them -/
def RowsV (K : PySem.W.Frag) (H : Hp) : List V → List (List Int) → Prop
  | [], [] => True
  | v :: vs, r :: rs => (∃ a, v = .ref a ∧ SqT K H a (r.map V.int)) ∧ RowsV K H vs rs
  | _, _ => False
def rSort (K : PySem.W.Frag) : List V → Hp → VK → Prop := fun xs H Q => ∃ t vs, xs = [.ref t] ∧ (SqT K H t vs ∨ SqL K H t vs) ∧ vs.length < 64 ∧
  ((∃ ns : List Int, vs = ns.map V.int ∧ ∀ (is : List Nat) l, (∀ i ∈ is, i < vs.length) → is.map (fun i => ns.getD i 0) = gsort ltI ns → H l = none → Q (.ref l) (upd H l (.lst (is.map fun i => vs.getD i .non)))) ∨
   (∃ rs : List (List Int), RowsV K H vs rs ∧ ∀ (is : List Nat) l, (∀ i ∈ is, i < vs.length) → is.map (fun i => rs.getD i []) = gsort lexL rs → H l = none → Q (.ref l) (upd H l (.lst (is.map fun i => vs.getD i .non)))))
theorem vals_at : ∀ {vs : List V} {us : List Value}, Vals vs us → ∀ {i : Nat}, i < vs.length → RelV (vs.getD i .non) (us.getD i Value.none)
  | _, _, .nil, i, h => by simp at h
  | _, _, .cons r t, 0, _ => r
  | _, _, .cons r t, i + 1, h => vals_at t (i := i) (by simpa using h)
theorem vals_pick {vs : List V} {us : List Value} (r : Vals vs us) : ∀ (is : List Nat), (∀ i ∈ is, i < vs.length) → Vals (is.map fun i => vs.getD i .non) (is.map fun i => us.getD i Value.none)
  | [], _ => .nil
  | i :: is, h => .cons (vals_at r (h i (List.mem_cons_self ..))) (vals_pick r is fun j hj => h j (List.mem_cons_of_mem _ hj))
section
variable {X : Cx}
theorem rows_of {pins : List (Addr × Obj)} {s : Shared} {σ : L2.St} {H : Hp} (I : Inv X pins σ H s) : ∀ {vs : List V} {us : List Value} {rs : List (List Int)}, Vals vs us → RowsV X.K H vs rs → RowsAre s.heap us rs
  | _, _, [], .nil, _ => trivial
  | _, _, _ :: _, .nil, h => h.elim
  | _, _, [], .cons _ _, h => h.elim
  | _, _, r :: rs, .cons q t, ⟨⟨a, e, h⟩, hs⟩ => by
    subst e
    cases q
    obtain ⟨its, rv, ⟨o, ho, hc, n, hd⟩, _⟩ := I.tuple h
    exact ⟨⟨a, o, its.toArray, n, rfl, ho, hc, hd, intsAre_of rv⟩, rows_of I t hs⟩
theorem call_sorted (hu : X.A.units + 64 < cLine) : CallR X (.builtin "sorted") (rSort X.K) := by
  intro pins s σ H xs us Q I hv h
  obtain ⟨t, vs, rfl, hq, hz, h⟩ := h
  cases hv with
  | cons r1 r2 =>
  cases r2
  cases r1
  have u2 : X.A.in1.in1.units < cLine := by show X.A.units + 1 + 1 < cLine; omega
  obtain ⟨its, rv, o, n, ho, hc, hd, hsz⟩ : ∃ its, Vals vs its ∧ ∃ (o : Obj) (n : Nat), s.heap.get? t = some o ∧ (o.cls = .type "list" ∨ o.cls = .type "tuple") ∧ o.data = .seq its.toArray n ∧ vs.length ≤ sizeLine := by
    rcases hq with hq | hq
    · obtain ⟨its, rv, ⟨o, ho, hc, n, hd⟩, hz⟩ := I.tuple hq
      exact ⟨its, rv, o, n, ho, .inr hc, hd, hz⟩
    · obtain ⟨its, rv, pl, hz⟩ := I.list hq
      obtain ⟨o, ho, hc, n, hd⟩ := pl.isList
      exact ⟨its, rv, o, n, ho, .inl hc, hd, hz⟩
  have hl := rv.length
  have z64 : its.length < 64 := by omega
  have fin : ∀ (is : List Nat) D h' c, (∀ i ∈ is, i < vs.length) → is.length = vs.length → Ext s.heap h' → s.heap.objs.size ≤ D → h'.get? D = some (seqObj "list" (List.toArray (is.map fun i => its.getD i Value.none)) c) →
      (∀ l, H l = none → Q (.ref l) (upd H l (.lst (is.map fun i => vs.getD i .non)))) → EP X pins σ Q (.ref D) { s with heap := h' } := fun is D h' c h1 hlen k hp hD q =>
    ⟨.ref D, _, I.laid (t' := s.toks) k hp (show ObjOk X.prog X.w _ h' D (.lst _) from ⟨by rw [List.length_map, hlen]; exact hsz, _, c, vals_pick rv is h1, hD⟩), rfl, q D (I.hok.fresh hp)⟩
  have inr : ∀ {p : Array Nat}, p.Perm (List.toArray (List.range its.length)) → (∀ i ∈ p.toList, i < vs.length) ∧ p.toList.length = vs.length := fun {p} hp => by
    have hl' : p.toList.Perm (List.range its.length) := by simpa using Array.perm_iff_toList_perm.mp hp
    refine ⟨fun i hi => ?_, ?_⟩
    · have := List.mem_range.mp (hl'.mem_iff.mp hi)
      omega
    · rw [hl'.length_eq, List.length_range]; exact hl.symm
  rcases h with ⟨ns, e, q⟩ | ⟨rs, R, q⟩
  · subst e
    have iI := intsAre_of rv
    have hn : its.length = ns.length := iI.length
    refine sorted_raw (O := intOrd) (κ := fun k => ns.getD k 0) ho hc hd z64 (fun h2 h' k => asks_ints iI h2) fun p D h' c hp hr k hD hg => ?_
    obtain ⟨i1, i2⟩ := inr hp
    rw [hn] at hp hr
    exact fin p.toList D h' c i1 i2 k hD hg fun l hl' => q _ l i1 (sort_keys (O := intOrd) (d := (0 : Int)) hp hr) hl'
  · have RA := rows_of I rv R
    have hn : its.length = rs.length := RA.length
    refine sorted_raw (O := rowOrd) (κ := fun k => rs.getD k []) ho hc hd z64 (fun h2 h' k => asks_rows (s := { s with heap := h' }) (RA.ext k) h2 u2) fun p D h' c hp hr k hD hg => ?_
    obtain ⟨i1, i2⟩ := inr hp
    rw [hn] at hp hr
    refine fin p.toList D h' c i1 i2 k hD hg fun l hl' => q _ l i1 ?_ hl'
    have e := sort_keys (O := rowOrd) (d := ([] : List Int)) hp hr
    rw [show (lexL : List Int → List Int → Bool) = HT.lexLt from funext fun a => funext fun b => lexL_eq a b]
    exact e
theorem reps_pick {P : PP} {H : Hp} {α : Type} {f : α → PyData} {as : List α} {d : α} {vs : List V} (r : Reps P H (as.map f) vs) : ∀ (is : List Nat), (∀ i ∈ is, i < vs.length) → Reps P H ((is.map fun i => as.getD i d).map f) (is.map fun i => vs.getD i .non)
  | [], _ => rfl
  | i :: is, h => by
    have hi := h i (List.mem_cons_self ..)
    have hl := r.length
    rw [List.length_map] at hl
    have ha : i < as.length := by omega
    obtain ⟨v, e, rv⟩ := Reps.get (i := i) (d := f (as.getD i d)) r (by simp [ha])
    refine ⟨v, _, ?_, rv, reps_pick r is fun j hj => h j (List.mem_cons_of_mem _ hj)⟩
    have : vs.getD i .non = v := by rw [List.getD_eq_getElem?_getD, e]; rfl
    rw [List.map_cons, this]
theorem intsOf_eq : ∀ {ds : List PyData} {ns : List Int}, intsOf ds = some ns → ds = ns.map .int
  | [], ns, e => by cases e; rfl
  | .int i :: r, ns, e => by
    unfold intsOf at e
    cases hx : intsOf r with
    | none => rw [hx] at e; cases e
    | some ms => rw [hx] at e; cases e; rw [intsOf_eq hx]; rfl
  | .none :: _, _, e => by cases e
  | .bool _ :: _, _, e => by cases e
  | .str _ :: _, _, e => by cases e
  | .tuple _ :: _, _, e => by cases e
  | .list _ :: _, _, e => by cases e
  | .dict _ :: _, _, e => by cases e
theorem rowsOf_eq : ∀ {ds : List PyData} {rs : List (List Int)}, rowsOf ds = some rs → ds = rs.map rowD
  | [], rs, e => by cases e; rfl
  | .tuple xs :: r, rs, e => by
    unfold rowsOf at e
    cases hx : intsOf xs with
    | none => rw [hx] at e; cases e
    | some a =>
      cases hy : rowsOf r with
      | none => rw [hx, hy] at e; cases e
      | some b =>
        rw [hx, hy] at e
        cases e
        rw [rowsOf_eq hy, intsOf_eq hx]; rfl
  | .int _ :: _, _, e => by cases e
  | .none :: _, _, e => by cases e
  | .bool _ :: _, _, e => by cases e
  | .str _ :: _, _, e => by cases e
  | .list _ :: _, _, e => by cases e
  | .dict _ :: _, _, e => by cases e
theorem reps_rowsV {K : PySem.W.Frag} {P : PP} {H : Hp} : ∀ {rs : List (List Int)} {vs : List V}, Reps P H (rs.map rowD) vs → RowsV K H vs rs
  | [], _, h => by cases (show _ = _ from h); trivial
  | r :: rs, _, ⟨v, t, e, h, q⟩ => by
    subst e
    obtain ⟨a, us, rfl, hp, hr⟩ := h
    have : us = r.map V.int := reps_intsOf (intsOf_map r) hr
    subst this
    exact ⟨⟨a, rfl, .inl hp⟩, reps_rowsV q⟩
theorem dSorted_read {K : PySem.W.Frag} : CallD (rSort K) dSorted := by
  intro H₀ Hs H l x d v Q s0 s1 e rx q
  have main : ∀ xs t vs, sortD xs = some d → v = .ref t → (SqT K H t vs ∨ SqL K H t vs) → Reps (PL H₀ Hs l) H xs vs → rSort K [v] H Q := fun xs t vs e ev hq rs => by
    subst ev
    unfold sortD at e
    split at e
    rotate_left
    · cases e
    rename_i h64
    have hl := rs.length
    refine ⟨t, vs, rfl, hq, by omega, ?_⟩
    split at e
    · rename_i ns hns
      cases e
      have ex := intsOf_eq hns
      subst ex
      left
      refine ⟨ns, reps_intsOf hns rs, fun is m h1 h2 hm => q _ _ (same_new hm _) ⟨m, _, rfl, .inl ⟨⟨rfl, s1.free hm⟩, upd_same⟩, ?_⟩⟩
      rw [← h2]
      exact ((reps_pick (d := (0 : Int)) (rs.nl (lfsI ns)) is h1)).same (same_new hm _)
    · split at e
      · rename_i rr hrr
        cases e
        have ex := rowsOf_eq hrr
        subst ex
        right
        refine ⟨rr, reps_rowsV rs, fun is m h1 h2 hm => q _ _ (same_new hm _) ⟨m, _, rfl, .inl ⟨⟨rfl, s1.free hm⟩, upd_same⟩, ?_⟩⟩
        rw [← h2]
        exact ((reps_pick (d := ([] : List Int)) (rs.nl (lfsR rr)) is h1)).same (same_new hm _)
      · cases e
  unfold dSorted at e
  split at e
  · obtain ⟨t, vs, rfl, hp, rs⟩ := rx
    exact main _ t vs e rfl (.inr (.inl hp.rd)) rs
  · obtain ⟨t, vs, rfl, hp, rs⟩ := rx
    exact main _ t vs e rfl (.inl (.inl hp)) rs
  · cases e
variable {XO : XOT} {a : Expr} {fa : FE} {pos p : Pos}
theorem x_sorted (C : BC X) (hm : X.mg "sorted" = none) (ha : PE X a (tF XO fa)) (hg : Gl X "sorted" := by rfl) (he : starEach [a] X.env = (false, eval a X.env) :: starEach [] X.env := by exact star_cons rfl) (hpl : (backTo pos (starEach [] X.env)).any (·.1) = false := by exact star_any rfl) :
    PE X (.Call (.Name "sorted" p) [a] [] pos) (tF XO (eSorted fa)) :=
  x_callB (call_sorted C.hu) dSorted_read hm boot_sorted ha hg (by decide) (by decide) he hpl
end
end KT
set_option Elab.async false
set_option linter.all false
set_option maxRecDepth 100000
namespace KT
open PySem PySem.Spec PyProof.Rows L2
section
variable {X : Cx}
variable {XO : XOT} {a : Expr} {fa : FE} {pos p : Pos}
end
end KT
set_option Elab.async false
set_option linter.all false
set_option maxRecDepth 100000
namespace KT
open PySem PySem.Spec PyProof.Rows L2
/-! ### for x in reversed(list) -/
def Itr (K : PySem.W.Frag) (a : Addr) (n : Nat) : It :=
  ⟨fun i H => ∃ xs x, SqL K H a xs ∧ i < n ∧ xs[n - 1 - i]? = some x, fun i H x H' => H' = H ∧ ∀ xs, SqL K H a xs → xs[n - 1 - i]? = some x, fun i _ => i = n⟩
section
variable {X : Cx} {XO : XOT} {e : Expr} {f : FE} {pos p : Pos} {tg : Expr}
end
end KT
set_option Elab.async false
set_option linter.all false
set_option maxRecDepth 100000
namespace KT
open PySem PySem.Spec PyProof.Rows L2
section
variable {X : Cx} {XO : XOT} {tg e : Expr} {f : FE} {pos : Pos}
end
end KT
set_option Elab.async false
set_option linter.all false
set_option maxRecDepth 100000
namespace KT
open PySem PySem.Spec PyProof.Rows L2
/-! ### a module's dict whose keys are texts: its values whole numbers, texts, tuples of these -/
/-- a value of the written part, as a datum -/
def KVal (K : PySem.W.Frag) (d : PyData) (u : Value) : Prop := scB d u = true ∨ ∃ ds b o, d = .tuple ds ∧ u = .ref b ∧ K.lookup b = some o ∧ stO o = some (ds.map scV) ∧ ∀ (P : PP) (H : Hp), Reps P H ds (ds.map scV)
inductive KEnt (K : PySem.W.Frag) (P : Params) : List DictEntry → List (Str × PyData) → Prop
  | nil : KEnt K P [] []
  | cons {z : Str} {t : Tok} {u : Value} {d : PyData} {es : List DictEntry} {kvs : List (Str × PyData)} : KVal K d u → KEnt K P es kvs → KEnt K P (⟨PyData.keyHash P z, .str z t, u⟩ :: es) ((z, d) :: kvs)
structure KDct (K : PySem.W.Frag) (P : Params) (mg : Str → Option Value) (x : Str) (kvs : List (Str × PyData)) : Prop where
  ex : ∃ a es ep, mg x = some (.ref a) ∧ (a == sysModules) = false ∧ K.lookup a = some ⟨.type "dict", none, .dict es ep, #[]⟩ ∧ KEnt K P es.toList kvs ∧ (kvs.map (·.1)).Nodup
section
variable {X : Cx} {XO : XOT} {e : Expr} {f : FE} {pos p : Pos} {x : Str} {kvs : List (Str × PyData)}
end
end KT
set_option Elab.async false
set_option linter.all false
set_option maxRecDepth 100000
namespace KT
open PySem PySem.Spec PyProof.Rows L2
section
variable {X : Cx} {XO : XOF} {cv : Cfg} {pos : Pos} {H₀ F H : Hp} {ρ : Rho} {σ : L2.St}
/-- a list of one's own, or one that is lent, has changed -/
theorem SR.changeG {i : Nat} {t : Slot} {p : Addr} {o0 o1 : OwV} {O : Own} (g : SR cv H₀ F ρ σ H) (o : SO cv H₀ F ρ σ H O) (hρ : i < ρ.length) (hO : O p = some i) (hp : H p = some o0.ho) (ht : SS cv H₀ O σ[i]? i (upd H p o1.ho) t) :
    SR cv H₀ F (ρ.set i (some t)) σ (upd H p o1.ho) := by
  have hT : ∀ a xs, Rd H a (.tup xs) → Rd (upd H p o1.ho) a (.tup xs) := fun a xs e => rd_upd hp e
  have hL : ∀ {P : PP}, (∀ z a, P z a → O a = none) → ∀ a ws, Rl P H a ws → Rl P (upd H p o1.ho) a ws := fun {P} hP a ws rl => by
    have hne : ∀ z, P z a → a ≠ p := fun z q y => by have := hP z a q; rw [y, hO] at this; cases this
    rcases rl with ⟨q, e⟩ | ⟨q, u, e⟩
    · exact .inl ⟨q, by rw [upd_ne (hne _ q)]; exact e⟩
    · exact .inr ⟨q, u, by rw [upd_ne (hne _ q)]; exact e⟩
  refine ⟨g.s0, fun b u e => ?_, by simp [g.len], g.ln, O, o.fr, fun a j e => ?_, fun j t' e => ?_⟩
  · rw [upd_ne]
    · exact g.s1 b u e
    · intro z; subst z; rw [o.fr b i hO] at e; cases e
  · by_cases z : a = p
    · subst z; exact ⟨o1, upd_same⟩
    · rw [upd_ne z]; exact o.ls a j e
  · by_cases hij : i = j
    · subst hij
      rw [set_get _ _ _ _ hρ, if_pos rfl] at e
      cases e
      exact ht
    · rw [set_get _ _ _ _ hρ, if_neg hij] at e
      have q := o.sl j t' e
      cases t' with
      | par d => obtain ⟨w, e1, rr⟩ := q; exact ⟨w, e1, Rep.mono hT (hL fun _ _ x => x) d w rr⟩
      | loc d => obtain ⟨w, e1, rr⟩ := q; exact ⟨w, e1, Rep.mono hT (hL fun _ _ x => x.2.1) d w rr⟩
      | own ds =>
        obtain ⟨q1, ws, e1, hq, hqp, rs⟩ := q
        have hne : q1 ≠ p := fun z => by rw [z, hO] at hq; cases hq; exact hij rfl
        exact ⟨q1, ws, e1, hq, by rw [upd_ne hne]; exact hqp, Reps.mono hT (hL fun _ _ x => x.elim) _ _ rs⟩
      | own2 ds =>
        obtain ⟨q1, ws, e1, hq, hqp, rs⟩ := q
        have hne : q1 ≠ p := fun z => by rw [z, hO] at hq; cases hq; exact hij rfl
        exact ⟨q1, ws, e1, hq, by rw [upd_ne hne]; exact hqp, Reps.mono hT (hL fun _ _ x => x.2.1) _ _ rs⟩
      | lent ds =>
        obtain ⟨ws, e1, hq, hqp, rs⟩ := q
        have hne : cv.lend ≠ p := fun z => by rw [z, hO] at hq; cases hq; exact hij rfl
        exact ⟨ws, e1, hq, by rw [upd_ne hne]; exact hqp, Reps.mono hT (hL fun _ _ x => x.elim) _ _ rs⟩
      | dct ks =>
        obtain ⟨q1, e1, hq, hd⟩ := q
        have hne : q1 ≠ p := fun z => by rw [z, hO] at hq; cases hq; exact hij rfl
        exact ⟨q1, e1, hq, hd.upd hne⟩
      | ex c =>
        obtain ⟨w, e1, φ, hx, hφ⟩ := q
        have hne : w ≠ p := fun z => by rw [z, hp] at hx; cases o0 <;> cases hx
        exact ⟨w, e1, φ, by rw [upd_ne hne]; exact hx, hφ⟩
theorem SR.lentT {i : Nat} {ds : List PyData} (g : SR cv H₀ F ρ σ H) (hi : ρ[i]? = some (some (.lent ds))) : ∃ O vs, SO cv H₀ F ρ σ H O ∧ σ[i]? = some (some (.ref cv.lend)) ∧ O cv.lend = some i ∧ H cv.lend = some (.lst vs) ∧ Reps (fun _ _ => False) H ds vs := by
  obtain ⟨O, o⟩ := g.ex
  obtain ⟨vs, e, q, h, r⟩ := o.sl i _ hi
  exact ⟨O, vs, o, e, q, h, r⟩
theorem SR.changeT {i : Nat} {ds ds' : List PyData} {vs vs' : List V} {O : Own} (g : SR cv H₀ F ρ σ H) (o : SO cv H₀ F ρ σ H O) (hi : ρ[i]? = some (some (.lent ds))) (hσ : σ[i]? = some (some (.ref cv.lend))) (hO : O cv.lend = some i) (hp : H cv.lend = some (.lst vs)) (r : Reps (fun _ _ => False) H ds' vs') :
    SR cv H₀ F (ρ.set i (some (.lent ds'))) σ (upd H cv.lend (.lst vs')) :=
  g.changeG (o0 := .l vs) (o1 := .l vs') o (List.getElem?_eq_some_iff.mp hi).1 hO hp ⟨vs', hσ, hO, upd_same, Reps.mono (fun a xs e => rd_upd (o0 := .l vs) hp e) (fun a ws rl => by rcases rl with ⟨q, _⟩ | ⟨q, _⟩ <;> exact q.elim) _ _ r⟩
/-! ### x.append(e), y = x.pop(), x.pop(), of a list that is lent -/
theorem s_appendT (i : Nat) {e : Expr} {f : FE} {x : Str} {xp apos cpos : Pos} (h : PE X e (tF ⟨cv.cv, XO⟩ f)) (hN : X.N[i]? = some x := by rfl) (hv : Vis X.env.scope x := by first | exact Or.inl rfl | exact Or.inr (Or.inl rfl) | exact Or.inr (Or.inr rfl))
    (hd : (x == ("__debug__" : Str)) = false := by decide) (hcd : (x == ("__classdict__" : Str)) = false := by decide)
    (hbase : attributeBase (.Name x xp) "append" X.env (eval (.Name x xp) X.env) = eval (.Name x xp) X.env := by rfl)
    (hfew : ((backTo cpos (starEach [e] X.env)).all (fun x => !x.1) && (backToKw cpos (keywordEach [] X.env)).all (fun x => x.1.isSome)
      && decide ([e].length + ([] : List Keyword).length + (if ([] : List Keyword).isEmpty then 0 else 1) < 30)) = true := by rfl)
    (hline : (apos.endLine == cpos.line) = true := by rfl) (hs1 : starEach [e] X.env = (false, eval e X.env) :: starEach [] X.env := by rfl) (hplain : (backTo cpos (starEach [] X.env)).any (·.1) = false := by rfl)
    (hs : swapsWith (.Call (.Attribute (.Name x xp) "append" apos) [e] [] cpos) none pos.line X.env = pure false := by rfl) :
    PS X (.Expr (.Call (.Attribute (.Name x xp) "append" apos) [e] [] cpos) pos) (tS cv XO (sAppendT i f)) := by
  intro pins s σ H D I ⟨H₀, F, ρ, r, g, e', k⟩
  refine ps_expr (pe_bm PySem.F.plainAttrs_list PySem.F.slot_list_append PySem.F.type_list_append mt_append (pe_var (i := i) hN hv hd hcd) (pa_cons h pa_nil hs1) hbase hfew hline hs1 hplain) hs pins s σ H D I ?_
  unfold sAppendT at e'
  split at e'
  · rename_i xs hρ
    obtain ⟨O, vs, o, hσ, hO, hp, rs⟩ := g.lentT hρ
    refine ⟨.ref cv.lend, hσ, .inl ⟨rfl, vs, SqL.of hp⟩, ?_⟩
    refine tS_bind g e' k fun l d v H1 s1 r1 e1 => ?_
    split at e1
    · rename_i hc
      cases e1
      rw [Bool.and_eq_true] at hc
      have hlen : xs.length < big := of_decide_eq_true hc.2
      refine ⟨cv.lend, vs, v, rfl, rfl, s1 _ _ hp, by rw [rs.length]; exact Nat.lt_of_lt_of_le hlen big_le, ?_⟩
      have o1 : SO cv H₀ F ρ σ H1 O := ⟨o.fr, fun a i e => let ⟨vs, q⟩ := o.ls a i e; ⟨vs, s1 _ _ q⟩, fun i t e => (o.sl i t e).same s1⟩
      exact k _ _ ((g.same s1).changeT o1 hρ hσ hO (s1 _ _ hp) ((rs.same s1).append (Reps.one (r1.nl hc.1))))
    · cases e1
  · cases e'
end
/-! ### a def that is lent a list -/
def drp (H : Hp) (p : Addr) : Hp := fun a => if a = p then none else H a
theorem drp_same (H : Hp) (p : Addr) : Same (drp H p) H := fun b u e => by
  unfold drp at e
  split at e
  · cases e
  · exact e
def spL (cv : Nat → Value) (g : FL) : Sp := fun vs H Q E => ∃ p xs ds oc ds', vs = [.ref p] ∧ H p = some (.lst xs) ∧ Reps (fun _ _ => False) H ds xs ∧ g ds = some (oc, ds') ∧
  (oc = none → ∀ H' xs', Same (drp H p) H' → H' p = some (.lst xs') → Reps (fun _ _ => False) H' ds' xs' → Q .non H') ∧ ∀ c, oc = some c → ∀ H' xs', Same (drp H p) H' → H' p = some (.lst xs') → Reps (fun _ _ => False) H' ds' xs' → E (cv c) none H'
structure FnL (CX : CXT) (P : Program) (w : World) (K : PySem.W.Frag) (mg : Str → Option Value) (base : Heap) (cv : Nat → Value) (n : Nat) (x : Str) (g : FL) : Prop where
  ex : ∃ f fd ps, FnOk P w K mg base CX n f fd ps (spL cv g) ∧ mg x = some (.ref f) ∧ PySem.W.keepIn K (.ref f) = true ∧ Binds K fd ps []
section
variable {X : Cx} {XO : XOF} {cv : Cfg} {CX : CXT} {pos p xp cpos : Pos} {n : Nat} {x y : Str} {g : FL}
end
end KT
namespace KT
open PySem L2
end KT
set_option Elab.async false
set_option linter.all false
set_option maxRecDepth 100000
namespace KT
open PySem PySem.Spec PyProof.Rows L2
section
variable {X : Cx} {XO : XOT} {a : Expr} {fa : FE} {pos : Pos}
end
end KT
namespace KT
open PySem PySem.Spec PyProof.Rows L2
/-! ### for i in range(a, b) -/
section
variable {X : Cx} {XO : XOT} {tg e e2 : Expr} {f f2 : FE} {pos p : Pos}
end
end KT
set_option Elab.async false
set_option linter.all false
set_option maxRecDepth 100000
namespace KT
open PySem PySem.Spec PyProof.Rows L2
/-! ### x < y of whole numbers, texts, tuples of these, at any depth -/
section
open PySem.SeqAt
open PySem.AutoSeq1 (wpAny_loadPart')
open PySem.MeetsSeq PySem.MeetsSeq2 PySem.MeetsSeq3
/-- a < b is worth c -/
def LtAt (A : Around) (s : Shared) (u v : Value) (c : Bool) : Prop := ∀ (prog : Program) (w : World) (E : Value → Shared → Prop) (Q : Value → Shared → Prop), Q (.bool c) s → wpAny (model prog w) A (richCompare .Lt u v) Q E s
/-- rows of values, each pair with its answers -/
inductive LtRow (A : Around) (s : Shared) : List Value → List Value → Bool → Prop
  | nn : LtRow A s [] [] false
  | nc {w : Value} {ws : List Value} : LtRow A s [] (w :: ws) true
  | cn {v : Value} {vs : List Value} : LtRow A s (v :: vs) [] false
  | eq {v w : Value} {vs ws : List Value} {c : Bool} : EqAt A s v w true → LtRow A s vs ws c → LtRow A s (v :: vs) (w :: ws) c
  | ne {v w : Value} {vs ws : List Value} {c : Bool} : EqAt A s v w false → LtAt A s v w c → LtRow A s (v :: vs) (w :: ws) c
theorem LtRow.heap {A : Around} {s : Shared} {vs ws : List Value} {c : Bool} (h : LtRow A s vs ws c) : True := trivial
theorem tuple_lt_row (l b : Addr) (items items2 : Array Value) (n n2 : Nat) (dd dd2 : Option Addr) (sl sl2 : Array (Option Value)) (c : Bool) :
    Meets (Builtin.«tuple.__lt__» ⟨[.ref l, .ref b], []⟩)
      (fun A R s => s.heap.get? l = some { cls := .type "tuple", dict := dd, data := .seq items n, slots := sl } ∧ s.heap.get? b = some { cls := .type "tuple", dict := dd2, data := .seq items2 n2, slots := sl2 } ∧
        LtRow A.in1 s items.toList items2.toList c ∧ R (.ok (.ret (.bool c))) s) :=
  .of_wp fun prog w A R s h => by
    obtain ⟨hp, g, d, tk, os⟩ := s; obtain ⟨hl, hb, hr, h⟩ := h
    have f2 := AutoSeq1.sub_tuple_tuple
    wp_walk using wpAny_loadPart' hl, wpAny_loadPart' hb, wpAny_forIn_list _ (fun rest b s' => b.1 = none ∧ s' = ⟨hp, g, d, tk, os⟩ ∧ ∃ (vs ws : List Value), rest = vs.zip ws ∧
      LtRow A.in1 ⟨hp, g, d, tk, os⟩ vs ws c ∧ vs.length + items2.size = ws.length + items.size) _
    case turn =>
      rintro ⟨y, x⟩ rest b s' ⟨hb', rfl, vs, ws, hz, hr', hlen⟩
      cases hr' with
      | nn => cases hz
      | nc => rw [List.zip_nil_left] at hz; cases hz
      | cn => rw [List.zip_nil_right] at hz; cases hz
      | eq he hr'' =>
        rw [List.zip_cons_cons] at hz
        injection hz with hyx hrest
        injection hyx with hy hx
        subst hy hx
        simp only [List.length_cons] at hlen
        refine wpAny_bind (he prog w _ _ ?_)
        wp_walk
        exact ⟨rfl, rfl, _, _, hrest, hr'', by omega⟩
      | ne he hlt =>
        rw [List.zip_cons_cons] at hz
        injection hz with hyx hrest
        injection hyx with hy hx
        subst hy hx
        refine wpAny_bind (he prog w _ _ ?_)
        have hri := hlt prog w
        wp_walk using hri
        exact ⟨_, rfl, by simpa using h⟩
    case fin =>
      rintro ⟨b1, b2⟩ s' ⟨hb', rfl, vs, ws, hz, hr', hlen⟩
      simp only at hb'
      subst hb'
      have hv : c = decide (items.size < items2.size) := by
        cases hr' with
        | nn => simp only [List.length_nil] at hlen; exact (decide_eq_false (by omega)).symm
        | nc => simp only [List.length_nil, List.length_cons] at hlen; exact (decide_eq_true (by omega)).symm
        | cn => simp only [List.length_nil, List.length_cons] at hlen; exact (decide_eq_false (by omega)).symm
        | eq _ _ => rw [List.zip_cons_cons] at hz; cases hz
        | ne _ _ => rw [List.zip_cons_cons] at hz; cases hz
      rw [hv] at h
      wp_walk
      exact ⟨_, rfl, by simpa [Builtin.Tuple.tupleCompareSizes] using h⟩
    case h =>
      exact ⟨rfl, rfl, items.toList, items2.toList, rfl, hr, by simp; omega⟩
mutual
theorem lt_readsG : ∀ (d e : PyData) (A : Around) (s : Shared) (u v : Value) (as bs : List Addr) (c : Bool), Reads s.heap u d as → Reads s.heap v e bs → d.canLay0 = true → e.canLay0 = true → A.units + d.depth < cLine → ltD d e = some c → LtAt A s u v c
  | .int i, .int j, A, s, u, v, as, bs, c, ra, rb, _, _, _, h => by
    cases ra; cases rb
    simp only [ltD, Option.some.injEq] at h
    subst h
    exact fun prog w E Q hq => (PyProof.Rows.lt_int hq : wpAny (model prog w) A (compareOp .Lt _ _) Q E s)
  | .str x, .str y, A, s, u, v, as, bs, c, ra, rb, _, _, _, h => by
    cases ra; cases rb
    simp only [ltD, Option.some.injEq] at h
    subst h
    exact fun prog w E Q hq => (PySem.P.lt_str hq : wpAny (model prog w) A (compareOp .Lt _ _) Q E s)
  | .tuple xs, .tuple ys, A, s, u, v, as, bs, c, ra, rb, ca, cb, hu, h => by
    simp only [ltD] at h
    cases ra with
    | @tuple a o1 its1 n1 ds1 as1 ho hc hd ha =>
      cases rb with
      | @tuple b o2 its2 n2 ds2 as2 ho2 hc2 hd2 hb =>
        simp only [PyData.depth] at hu
        have row := lt_rowsG xs ys A.in1 s _ _ _ _ c ha hb (by simpa [PyData.canLay0] using ca) (by simpa [PyData.canLay0] using cb) (by show A.units + 1 + _ < cLine; omega) h
        intro prog w E Q hq
        obtain ⟨cls, dd, data, sl⟩ := o1
        obtain ⟨cls2, dd2, data2, sl2⟩ := o2
        simp only at hc hd hc2 hd2
        subst hc hd hc2 hd2
        exact richCompare_meets_room (op := .Lt) ⟨_, ho, rfl⟩ ⟨_, ho2, rfl⟩ PySem.F.slot_tuple_lt PySem.F.entry_tuple_lt (PySem.F.args_tuple_lt_2 _ _) (tuple_lt_row _ _ _ _ _ _ dd dd2 sl sl2 c)
          ⟨ho, ho2, row, show Value.bool c ≠ Value.notImplemented ∧ Q (.bool c) s from ⟨(fun x => nomatch x), hq⟩⟩ (by omega)
  | .none, _, _, _, _, _, _, _, _, _, _, _, _, _, h => by simp [ltD] at h
  | .bool _, _, _, _, _, _, _, _, _, _, _, _, _, _, h => by simp [ltD] at h
  | .list _, _, _, _, _, _, _, _, _, _, _, _, _, _, h => by simp [ltD] at h
  | .dict _, _, _, _, _, _, _, _, _, _, _, _, _, _, h => by simp [ltD] at h
  | .int _, .none, _, _, _, _, _, _, _, _, _, _, _, _, h => by simp [ltD] at h
  | .int _, .bool _, _, _, _, _, _, _, _, _, _, _, _, _, h => by simp [ltD] at h
  | .int _, .str _, _, _, _, _, _, _, _, _, _, _, _, _, h => by simp [ltD] at h
  | .int _, .tuple _, _, _, _, _, _, _, _, _, _, _, _, _, h => by simp [ltD] at h
  | .int _, .list _, _, _, _, _, _, _, _, _, _, _, _, _, h => by simp [ltD] at h
  | .int _, .dict _, _, _, _, _, _, _, _, _, _, _, _, _, h => by simp [ltD] at h
  | .str _, .none, _, _, _, _, _, _, _, _, _, _, _, _, h => by simp [ltD] at h
  | .str _, .bool _, _, _, _, _, _, _, _, _, _, _, _, _, h => by simp [ltD] at h
  | .str _, .int _, _, _, _, _, _, _, _, _, _, _, _, _, h => by simp [ltD] at h
  | .str _, .tuple _, _, _, _, _, _, _, _, _, _, _, _, _, h => by simp [ltD] at h
  | .str _, .list _, _, _, _, _, _, _, _, _, _, _, _, _, h => by simp [ltD] at h
  | .str _, .dict _, _, _, _, _, _, _, _, _, _, _, _, _, h => by simp [ltD] at h
  | .tuple _, .none, _, _, _, _, _, _, _, _, _, _, _, _, h => by simp [ltD] at h
  | .tuple _, .bool _, _, _, _, _, _, _, _, _, _, _, _, _, h => by simp [ltD] at h
  | .tuple _, .int _, _, _, _, _, _, _, _, _, _, _, _, _, h => by simp [ltD] at h
  | .tuple _, .str _, _, _, _, _, _, _, _, _, _, _, _, _, h => by simp [ltD] at h
  | .tuple _, .list _, _, _, _, _, _, _, _, _, _, _, _, _, h => by simp [ltD] at h
  | .tuple _, .dict _, _, _, _, _, _, _, _, _, _, _, _, _, h => by simp [ltD] at h
theorem lt_rowsG : ∀ (ds es : List PyData) (A : Around) (s : Shared) (us vs : List Value) (as bs : List Addr) (c : Bool), ReadsAll s.heap us ds as → ReadsAll s.heap vs es bs → PyData.canLayAll0 ds = true → PyData.canLayAll0 es = true → A.units + PyData.depthAll ds < cLine → ltDs ds es = some c → LtRow A s us vs c
  | [], [], A, s, _, _, _, _, c, ra, rb, _, _, _, h => by cases ra; cases rb; cases h; exact .nn
  | [], _ :: _, A, s, _, _, _, _, c, ra, rb, _, _, _, h => by cases ra; cases rb; cases h; exact .nc
  | _ :: _, [], A, s, _, _, _, _, c, ra, rb, _, _, _, h => by cases ra; cases rb; cases h; exact .cn
  | x :: xs, y :: ys, A, s, _, _, _, _, c, ra, rb, ca, cb, hu, h => by
    have ca' : x.canLay0 = true ∧ PyData.canLayAll0 xs = true := by simpa [PyData.canLayAll0] using ca
    have cb' : y.canLay0 = true ∧ PyData.canLayAll0 ys = true := by simpa [PyData.canLayAll0] using cb
    have hm : PyData.depthAll (x :: xs) = max x.depth (PyData.depthAll xs) := rfl
    rw [hm] at hu
    cases ra with
    | cons r1 r2 =>
      cases rb with
      | cons q1 q2 =>
        have he := SeqAt.eqAt_reads x y A s _ _ _ _ r1 q1 ca'.1 cb'.1 (by omega)
        unfold ltDs at h
        by_cases hq : PyData.eqv x y = true
        · rw [if_pos hq] at h
          rw [hq] at he
          exact .eq he (lt_rowsG xs ys A s _ _ _ _ c r2 q2 ca'.2 cb'.2 (by omega) h)
        · rw [if_neg hq] at h
          rw [Bool.eq_false_iff.mpr hq] at he
          exact .ne he (lt_readsG x y A s _ _ _ _ c r1 q1 ca'.1 cb'.1 (by omega) h)
end
end
section
variable {X : Cx} {XO : XOT} {a b : Expr} {fa fb : FE} {pos : Pos}
def rLtG : R2 := fun x y H Q => ∃ (d e : PyData) (P P' : PP) (c : Bool), Rep P H d x ∧ Rep P' H e y ∧ d.canLay0 = true ∧ e.canLay0 = true ∧ d.depth ≤ 60 ∧ ltD d e = some c ∧ Q (.bl c) H
theorem op_ltG (hu : X.A.units + 64 < cLine) : OpR X (compareOp .Lt) rLtG := by
  intro pins s σ H x y v u Q I rx ry h
  obtain ⟨d, e, P, P', c, r1, r2, c1, c2, hd, hl, q⟩ := h
  obtain ⟨as, ra⟩ := reads_of I d x v c1 r1 rx
  obtain ⟨bs, rb⟩ := reads_of I e y u c2 r2 ry
  exact lt_readsG d e X.A s v u as bs c ra rb c1 c2 (by omega) hl X.prog X.w X.xe _ ⟨.bl c, H, I, rfl, q⟩
theorem od_ltG : OpD rLtG dLtG true := by
  intro H₀ Hs H l m x y d v u Q s0 s1 e rx ry q
  unfold dLtG at e
  split at e
  · rename_i hc
    rw [Bool.and_eq_true, Bool.and_eq_true, decide_eq_true_eq] at hc
    cases hl : ltD x y with
    | none => rw [hl] at e; cases e
    | some c =>
      rw [hl] at e
      cases e
      exact ⟨x, y, _, _, c, rx, ry, hc.1.1, hc.1.2, hc.2, hl, q _ H (Same.refl H) rfl⟩
  · cases e
theorem u_LtG (C : BC X) (ha : PE X a (tF XO fa)) (hb : PE X b (tF XO fb)) : PT X (.Compare a [.Lt] [b] pos) (tTest (tF XO (eLtG fa fb))) := t_cmp (op_ltG C.hu) od_ltG ha hb (nomark _)
end
end KT
set_option Elab.async false
set_option linter.all false
set_option maxRecDepth 100000
namespace KT
open PySem PySem.Spec PyProof.Rows L2
/-! ### a def that is handed a row: it appends to it and gives a value -/
def spR (cv : Nat → Value) (ar : Nat) (g : FR) : Sp := fun vs H Q E => ∃ p xs avs ds args d ds', vs = avs ++ [.ref p] ∧ avs.length + 1 = ar ∧ H p = some (.lst xs) ∧ Reps (fun _ _ => False) H ds xs ∧ Reps (fun _ a => a ≠ p) H args avs ∧ g args ds = some (d, ds') ∧
  ∀ v H' xs', Same (drp H p) H' → H' p = some (.lst xs') → Reps (fun _ _ => False) H' ds' xs' → Rep (fun _ a => a ≠ p) H' d v → Q v H'
theorem row_sr {cv : Nat → Value} {N : List Str} {p : Addr} {xs avs : List V} {ds args : List PyData} {H : Hp} (hn : avs.length + 1 ≤ N.length) (hp : H p = some (.lst xs)) (r : Reps (fun _ _ => False) H ds xs) (ra : Reps (fun _ a => a ≠ p) H args avs) :
    SR ⟨cv, N.length, p⟩ (drp H p) (drp H p) (args.map (fun d => some (.par d)) ++ some (.lent ds) :: List.replicate (N.length - args.length - 1) none) (L2.start N (avs ++ [.ref p])) H := by
  have hl := ra.length
  refine ⟨Same.refl _, drp_same H p, ?_, ?_, fun a => if a = p then some args.length else none, fun a i e => ?_, fun a i e => ?_, fun i t e => ?_⟩
  · simp; omega
  · unfold L2.start; simp; omega
  · by_cases z : a = p
    · unfold drp; rw [if_pos z]
    · rw [if_neg z] at e; cases e
  · by_cases z : a = p
    · subst z; exact ⟨.l xs, hp⟩
    · rw [if_neg z] at e; cases e
  · rcases Nat.lt_trichotomy i args.length with hi | hi | hi
    · rw [List.getElem?_append_left (by simpa using hi), List.getElem?_map] at e
      cases hx : args[i]? with
      | none => rw [hx] at e; cases e
      | some d =>
        rw [hx] at e
        cases e
        obtain ⟨v, hv, rv⟩ := ra.get hx
        refine ⟨v, ?_, rv.imp fun _ a q => if_neg q⟩
        unfold L2.start
        rw [List.getElem?_append_left (by simp; omega), List.getElem?_map, List.getElem?_append_left (by omega), hv]
        rfl
    · subst hi
      rw [List.getElem?_append_right (by simp)] at e
      simp only [List.length_map, Nat.sub_self, List.getElem?_cons_zero, Option.some.injEq] at e
      cases e
      refine ⟨xs, ?_, if_pos rfl, hp, r⟩
      unfold L2.start
      rw [List.getElem?_append_left (by simp; omega), List.getElem?_map, ← hl, List.getElem?_append_right (Nat.le_refl _)]
      simp
    · rw [List.getElem?_append_right (by simp; omega)] at e
      obtain ⟨j, hj⟩ : ∃ j, i - (args.map (fun d => some (Slot.par d))).length = j + 1 := ⟨i - args.length - 1, by simp; omega⟩
      rw [hj, List.getElem?_cons_succ, List.getElem?_replicate] at e
      split at e <;> cases e
theorem fun_okR {P : Program} {w : World} {K : PySem.W.Frag} {mg : Str → Option Value} {base : Heap} {cv : Nat → Value} {x qual : Str} {st : Stmt} {f : Addr} {fd : FuncData} {N ps : List Str} {k : Nat} {b : FS} (M : MF mg) (F : Fun K x qual st f fd) (S : FnScope N ps (defScope st))
    (hbody : ∀ (lend : Addr) (cdv : Value) (A : Around) (outer : List Env) (s : Shared) (H : Hp) (E : XK), Body P w cv k (cxOf (CX1 P w) P w K mg base N qual (defScope st) f cdv A outer s H E) (fun c _ H' => E (cv c) none H') →
      PSs (cxOf (CX1 P w) P w K mg base N qual (defScope st) f cdv A outer s H E) (defBody st) (tS ⟨cv, N.length, lend⟩ (fun c _ H' => E (cv c) none H') b)) :
    FnOk P w K mg base (CX1 P w) (k + 1) f fd ps (spR cv ps.length (runRw N.length b)) := by
  obtain ⟨oc, od, kV, doc, pm, an, cdv, ct, osl, rfl, lk, hcd⟩ := F.ex
  refine fn_of lk hcd S (fun vs H Q E h => ?_) fun A outer s H vs Q E hr hsp => ?_
  · obtain ⟨p, xs, avs, ds, args, d, ds', rfl, hl, _⟩ := h
    simpa using hl
  obtain ⟨p, xs, avs, ds, args, d, ds', rfl, hl, hp, rp, ra, hg, hok⟩ := hsp
  refine ⟨tS ⟨cv, N.length, p⟩ (fun c _ H' => E (cv c) none H') b, hbody p cdv A outer s H E ⟨⟨hr.units, M.mlen, M.mint, M.mbool, M.mstr, M.mtuple, M.mlist, M.misi, M.mrange, M.menum, M.mzip, M.mrev⟩, hr, xlink_cx, rlink_cx, PassesOwn.leaving, rfl, S.nd⟩, ?_⟩
  have hn : avs.length + 1 ≤ N.length := by
    have := congrArg List.length S.pre
    rw [List.length_take] at this
    omega
  have g := row_sr (cv := cv) hn hp rp ra
  unfold runRw at hg
  cases hb : b (args.map (fun d => some (.par d)) ++ some (.lent ds) :: List.replicate (N.length - args.length - 1) none) with
  | none => rw [hb] at hg; cases hg
  | some y =>
    rw [hb] at hg
    refine ⟨drp H p, drp H p, _, y, g, hb, ?_⟩
    cases y with
    | retL d' ds2 =>
      cases hg
      intro v H' s1 rv ⟨vs, h1, h2⟩
      exact hok v H' vs s1 h1 h2 rv
    | ret d => cases hg
    | next ρ' => cases hg
    | exc c ρ' => cases hg
    | brk ρ' => cases hg
    | cont ρ' => cases hg
structure FnR (CX : CXT) (P : Program) (w : World) (K : PySem.W.Frag) (mg : Str → Option Value) (base : Heap) (cv : Nat → Value) (n : Nat) (x : Str) (ar : Nat) (g : FR) : Prop where
  ex : ∃ f fd ps, FnOk P w K mg base CX n f fd ps (spR cv ar g) ∧ mg x = some (.ref f) ∧ PySem.W.keepIn K (.ref f) = true ∧ Binds K fd ps []
section
variable {P : Program} {w : World} {K : PySem.W.Frag} {mg : Str → Option Value} {base : Heap} {cv : Nat → Value} {CX : CXT} {n ar : Nat} {x : Str} {st : Stmt} {ps : List Str} {g : FR}
theorem fnR0 (F : FunT K mg x st ps) : FnR CX P w K mg base cv 0 x ar (fun _ _ => none) := by
  obtain ⟨f, fd, F, hm, hb, _⟩ := F.ex
  have no : ∀ vs H Q E, ¬ spR cv ar (fun _ _ => none) vs H Q E := fun vs H Q E h => by
    obtain ⟨p, xs, avs, ds, args, d, ds', _, _, _, _, _, z, _⟩ := h
    cases z
  exact ⟨f, fd, ps, ⟨fun vs H Q E h => absurd h (no vs H Q E), fun A outer s H args us vs Q E _ _ _ _ h => absurd h (no vs H Q E)⟩, hm, F.kp, hb⟩
theorem fnRS (F : FunT K mg x st ps) (ok : ∀ f fd, Fun K x x st f fd → FnOk P w K mg base CX n f fd ps (spR cv ar g)) : FnR CX P w K mg base cv n x ar g := by
  obtain ⟨f, fd, F, hm, hb, _⟩ := F.ex
  exact ⟨f, fd, ps, ok f fd F, hm, F.kp, hb⟩
end
/-! ### the call, by its arguments -/
def tX1 (XO : XOT) (K : PySem.W.Frag) : Arg → TE
  | .f e => tF XO e
  | .n j => tVar j
  | .x j k => tOp (rIx K) (tVar j) (tC (.int (k : Int)))
def tXA (XO : XOT) (K : PySem.W.Frag) : List Arg → Nat → TA
  | [], i => tCons (tVar i) tNil
  | a :: as, i => tCons (tX1 XO K a) (tXA XO K as i)
section
variable {X : Cx} {XO : XOF} {cv : Cfg} {pos p : Pos} {H₀ F H : Hp} {ρ : Rho} {σ : L2.St} {e : Expr} {es : List Expr} {f : FE} {as : List Arg} {i : Nat}
theorem xa_row (i : Nat) {x : Str} {xp : Pos} (hN : X.N[i]? = some x := by rfl) (hv : Vis X.env.scope x := by first | exact Or.inl rfl | exact Or.inr (Or.inl rfl) | exact Or.inr (Or.inr rfl)) (hd : (x == ("__debug__" : Str)) = false := by decide) (hcd : (x == ("__classdict__" : Str)) = false := by decide)
    (hs : starEach [.Name x xp] X.env = (false, eval (.Name x xp) X.env) :: starEach [] X.env := by exact star_cons rfl) : PA X [.Name x xp] (tXA ⟨cv.cv, XO⟩ X.K [] i) := pa_cons (pe_var (i := i) hN hv hd hcd) pa_nil hs
theorem xa_f (h : PE X e (tF ⟨cv.cv, XO⟩ f)) (t : PA X es (tXA ⟨cv.cv, XO⟩ X.K as i)) (hs : starEach (e :: es) X.env = (false, eval e X.env) :: starEach es X.env := by exact star_cons rfl) : PA X (e :: es) (tXA ⟨cv.cv, XO⟩ X.K (.f f :: as) i) := pa_cons h t hs
theorem xa_n (j : Nat) {x : Str} {xp : Pos} (t : PA X es (tXA ⟨cv.cv, XO⟩ X.K as i)) (hN : X.N[j]? = some x := by rfl) (hv : Vis X.env.scope x := by first | exact Or.inl rfl | exact Or.inr (Or.inl rfl) | exact Or.inr (Or.inr rfl)) (hd : (x == ("__debug__" : Str)) = false := by decide) (hcd : (x == ("__classdict__" : Str)) = false := by decide)
    (hs : starEach (.Name x xp :: es) X.env = (false, eval (.Name x xp) X.env) :: starEach es X.env := by exact star_cons rfl) : PA X (.Name x xp :: es) (tXA ⟨cv.cv, XO⟩ X.K (.n j :: as) i) := pa_cons (pe_var (i := j) hN hv hd hcd) t hs
theorem xa_x (j k : Nat) {x : Str} {xp kp sp : Pos} {c : Nat} (t : PA X es (tXA ⟨cv.cv, XO⟩ X.K as i)) (hN : X.N[j]? = some x := by rfl) (hv : Vis X.env.scope x := by first | exact Or.inl rfl | exact Or.inr (Or.inl rfl) | exact Or.inr (Or.inr rfl)) (hd : (x == ("__debug__" : Str)) = false := by decide) (hcd : (x == ("__classdict__" : Str)) = false := by decide)
    (hs : starEach (.Subscript (.Name x xp) (.Constant (.int (k : Int)) c kp) sp :: es) X.env = (false, eval (.Subscript (.Name x xp) (.Constant (.int (k : Int)) c kp) sp) X.env) :: starEach es X.env := by exact star_cons rfl) : PA X (.Subscript (.Name x xp) (.Constant (.int (k : Int)) c kp) sp :: es) (tXA ⟨cv.cv, XO⟩ X.K (.x j k :: as) i) :=
  pa_cons (pe_ix ix_seq (pe_var (i := j) hN hv hd hcd) pe_int (fun _ _ => rfl)) t hs
/-- where the row lies -/
theorem row_at {rs : List PyData} {O : Own} (o : SO cv H₀ F ρ σ H O) (h : rowL ρ i = some rs) : ∃ q xs, σ[i]? = some (some (.ref q)) ∧ O q = some i ∧ H q = some (.lst xs) ∧ Reps (fun _ _ => False) H rs xs ∧ (∀ t, ρ[i]? = some (some (.lent t)) → q = cv.lend) := by
  unfold rowL at h
  split at h
  · rename_i ds hρ
    cases h
    obtain ⟨q, vs, e, hq, hp, r⟩ := o.sl i _ hρ
    exact ⟨q, vs, e, hq, hp, r, fun t z => by rw [hρ] at z; cases z⟩
  · rename_i ds hρ
    cases h
    obtain ⟨vs, e, hq, hp, r⟩ := o.sl i _ hρ
    exact ⟨cv.lend, vs, e, hq, hp, r, fun t z => rfl⟩
  · cases h
/-- a slot's value, not the row -/
theorem slot_rep {O : Own} {j : Nat} {d : PyData} {q : Addr} (o : SO cv H₀ F ρ σ H O) (hq : O q = some i) (hj : j ≠ i) (h : slotD ρ[j]? = some d) : ∃ v, σ[j]? = some (some v) ∧ Rep (fun _ a => a ≠ q) H d v := by
  have ne : ∀ a, O a = none → a ≠ q := fun a z y => by rw [y, hq] at z; cases z
  unfold slotD at h
  split at h
  · rename_i hρ
    cases h
    obtain ⟨v, e, r⟩ := o.sl j _ hρ
    exact ⟨v, e, r.imp fun _ a z => ne a z⟩
  · rename_i hρ
    cases h
    obtain ⟨v, e, r⟩ := o.sl j _ hρ
    exact ⟨v, e, r.imp fun _ a z => ne a z.2.1⟩
  · rename_i ds hρ
    cases h
    obtain ⟨p, vs, e, hp, hv, r⟩ := o.sl j _ hρ
    refine ⟨.ref p, e, p, vs, rfl, .inl ⟨fun y => ?_, hv⟩, r.imp fun _ _ z => z.elim⟩
    rw [y, hq] at hp
    cases hp
    exact hj rfl
  · cases h
theorem SO.same {O : Own} {H1 : Hp} (o : SO cv H₀ F ρ σ H O) (s1 : Same H H1) : SO cv H₀ F ρ σ H1 O := ⟨o.fr, fun a i e => let ⟨vs, q⟩ := o.ls a i e; ⟨vs, s1 _ _ q⟩, fun i t e => (o.sl i t e).same s1⟩
theorem xa_read {O : Own} {q : Addr} : ∀ (as : List Arg) (ds : List PyData) (H : Hp) (Q : List V → Hp → Prop), SR cv H₀ F ρ σ H → SO cv H₀ F ρ σ H O → σ[i]? = some (some (.ref q)) → O q = some i → argsD i ρ as = some ds →
    (∀ avs H1, Same H H1 → Reps (fun _ a => a ≠ q) H1 ds avs → Q (avs ++ [.ref q]) H1) → tXA ⟨cv.cv, XO⟩ X.K as i σ H Q
  | [], ds, H, Q, g, o, hσ, hO, ha, k => by
    cases ha
    exact ⟨.ref q, hσ, k [] H (Same.refl H) rfl⟩
  | a :: as, ds, H, Q, g, o, hσ, hO, ha, k => by
    unfold argsD at ha
    split at ha
    case h_2 => cases ha
    rename_i d ds' h1 h2
    cases ha
    have rest : ∀ v H1, Same H H1 → Rep (fun _ a => a ≠ q) H1 d v → tXA ⟨cv.cv, XO⟩ X.K as i σ H1 fun vs H2 => Q (v :: vs) H2 := fun v H1 s1 r1 =>
      xa_read as ds' H1 _ (g.same s1) (o.same s1) hσ hO h2 fun avs H2 s2 r2 => k (v :: avs) H2 (s1.trans s2) ⟨v, avs, rfl, r1.same s2, r2⟩
    cases a with
    | f e =>
      simp only [argD] at h1
      split at h1
      · rename_i l d' he
        split at h1
        · rename_i hl
          cases h1
          refine ⟨H₀, H, ρ, .ok l d, g.g, he, ⟨fun l' d' v H' e' s rp => ?_, fun c H' e => (nomatch e)⟩⟩
          cases e'
          exact rest v H' s (rp.nl hl)
        · cases h1
      · cases h1
    | n j =>
      simp only [argD] at h1
      split at h1
      · cases h1
      · rename_i hj
        obtain ⟨v, e, r⟩ := slot_rep o hO hj h1
        exact ⟨v, e, rest v H (Same.refl H) r⟩
    | x j k' =>
      simp only [argD] at h1
      split at h1
      · cases h1
      · rename_i hj
        split at h1
        · rename_i es hs
          obtain ⟨v, e, pa, vs, rfl, rl, rs⟩ := slot_rep o hO hj hs
          obtain ⟨w, hw, rw'⟩ := rs.get h1
          have hlt := (List.getElem?_eq_some_iff.mp hw).1
          have hat : L2.atI vs (k' : Int) = some w := by
            unfold L2.atI L2.ixN
            rw [if_pos (by omega), if_pos (by omega)]
            simpa using hw
          exact ⟨.ref pa, e, .inl ⟨pa, vs, (k' : Int), w, rfl, rfl, .inl rl.rd, hat, rest w H (Same.refl H) rw'⟩⟩
        · cases h1
/-- behind the call -/
theorem row_after {O : Own} {q : Addr} {H1 H' : Hp} {xs' : List V} {rs rs' : List PyData} (g : SR cv H₀ F ρ σ H1) (o : SO cv H₀ F ρ σ H1 O) (hr : rowL ρ i = some rs) (hσ : σ[i]? = some (some (.ref q))) (hO : O q = some i) {xs : List V} (hp : H1 q = some (.lst xs)) (hlend : ∀ t, ρ[i]? = some (some (.lent t)) → q = cv.lend)
    (sm : Same (drp H1 q) H') (hq : H' q = some (.lst xs')) (r' : Reps (fun _ _ => False) H' rs' xs') : SR cv H₀ F (demE ρ i rs') σ H' ∧ SO cv H₀ F (demE ρ i rs') σ H' (fun a => if a = q then some i else none) := by
  have sm' : ∀ b u, b ≠ q → H1 b = some u → H' b = some u := fun b u n z => sm b u (by unfold drp; rw [if_neg n]; exact z)
  have hil : i < ρ.length := by
    unfold rowL at hr
    split at hr
    · rename_i h; exact (List.getElem?_eq_some_iff.mp h).1
    · rename_i h; exact (List.getElem?_eq_some_iff.mp h).1
    · cases hr
  have hT : ∀ a xs, Rd H1 a (.tup xs) → Rd H' a (.tup xs) := fun a xs h => by
    have hne : a ≠ q := by
      intro z; subst z
      rcases h with h | ⟨_, h⟩ <;> (rw [hp] at h; cases h)
    rcases h with h | ⟨u, h⟩
    · exact .inl (sm' _ _ hne h)
    · exact .inr ⟨u, sm' _ _ hne h⟩
  have ne : ∀ a, O a = none → a ≠ q := fun a z y => by rw [y, hO] at z; cases z
  have hL : ∀ {P P' : PP}, (∀ z a, P z a → O a = none ∧ P' z a) → ∀ a ws, Rl P H1 a ws → Rl P' H' a ws := fun {P P'} hP a ws rl => by
    rcases rl with ⟨w, e⟩ | ⟨w, u, e⟩
    · exact .inl ⟨(hP _ _ w).2, sm' _ _ (ne _ (hP _ _ w).1) e⟩
    · exact .inr ⟨(hP _ _ w).2, u, sm' _ _ (ne _ (hP _ _ w).1) e⟩
  have so : SO cv H₀ F (demE ρ i rs') σ H' (fun a => if a = q then some i else none) := by
    refine ⟨fun a j e => ?_, fun a j e => ?_, fun j t e => ?_⟩
    · by_cases z : a = q
      · subst z; exact o.fr a i hO
      · rw [if_neg z] at e; cases e
    · by_cases z : a = q
      · subst z; exact ⟨.l xs', hq⟩
      · rw [if_neg z] at e; cases e
    · unfold demE at e
      by_cases hij : i = j
      · subst hij
        rw [set_get _ _ _ _ (by simpa using hil), if_pos rfl] at e
        unfold rowS at e
        split at e
        · cases e; exact ⟨q, xs', hσ, if_pos rfl, hq, r'⟩
        · rename_i t' hρ
          cases e
          have hl := hlend _ hρ
          subst hl
          exact ⟨xs', hσ, if_pos rfl, hq, r'⟩
        · cases e
      · rw [set_get _ _ _ _ (by simpa using hil), if_neg hij, List.getElem?_map] at e
        cases hx : ρ[j]? with
        | none => rw [hx] at e; cases e
        | some os =>
          rw [hx] at e
          simp only [Option.map_some, Option.some.injEq] at e
          cases os with
          | none => cases e
          | some t0 =>
            have sl := o.sl j t0 hx
            cases t0 with
            | par d => cases e; obtain ⟨w, e1, rr⟩ := sl; exact ⟨w, e1, Rep.mono hT (hL fun _ a x => ⟨x, if_neg (ne a x)⟩) d w rr⟩
            | loc d => cases e; obtain ⟨w, e1, rr⟩ := sl; exact ⟨w, e1, Rep.mono hT (hL fun _ a x => ⟨x.2.1, x.1, if_neg (ne a x.2.1), x.2.2⟩) d w rr⟩
            | own ds =>
              cases e
              obtain ⟨p, vs, e1, hp', hv, rr⟩ := sl
              have hne : p ≠ q := fun z => by rw [z, hO] at hp'; cases hp'; exact hij rfl
              exact ⟨.ref p, e1, p, vs, rfl, .inl ⟨⟨rfl, if_neg hne, g.s0.free (o.fr p j hp')⟩, sm' _ _ hne hv⟩, Reps.mono hT (fun a ws rl => by rcases rl with ⟨z, _⟩ | ⟨z, _⟩ <;> exact z.elim) _ _ rr⟩
            | own2 ds =>
              cases e
              obtain ⟨p, vs, e1, hp', hv, rr⟩ := sl
              have hne : p ≠ q := fun z => by rw [z, hO] at hp'; cases hp'; exact hij rfl
              exact ⟨.ref p, e1, p, vs, rfl, .inl ⟨⟨rfl, if_neg hne, g.s0.free (o.fr p j hp')⟩, sm' _ _ hne hv⟩, Reps.mono hT (hL fun _ a x => ⟨x.2.1, x.1, if_neg (ne a x.2.1), x.2.2⟩) _ _ rr⟩
            | dct ks => cases e
            | lent ds => cases e
            | ex c =>
              cases e
              obtain ⟨w, e1, φ, hx', hφ⟩ := sl
              have hne : w ≠ q := fun z => by rw [z, hp] at hx'; cases hx'
              exact ⟨w, e1, φ, sm' _ _ hne hx', hφ⟩
  refine ⟨⟨g.s0, fun b u e => ?_, by unfold demE; simp [g.len], g.ln, _, so⟩, so⟩
  refine sm' b u (fun z => ?_) (g.s1 b u e)
  subst z; rw [o.fr b i hO] at e; cases e
end
end KT
set_option Elab.async false
set_option linter.all false
set_option maxRecDepth 100000
namespace KT
open PySem PySem.Spec PyProof.Rows L2
section
variable {X : Cx} {XO : XOF} {cv : Cfg} {CX : CXT} {pos p : Pos} {H₀ F H : Hp} {ρ : Rho} {σ : L2.St} {e : Expr} {es : List Expr} {as : List Arg} {i n ar : Nat} {x : Str} {g : FR}
def tRC (cv : Cfg) (XO : XOF) (K : PySem.W.Frag) (as : List Arg) (i ar : Nat) (g : FR) : TE := fun σ H Q => tXA ⟨cv.cv, XO⟩ K as i σ H fun vs H1 => spR cv.cv ar g vs H1 Q (fun cls _ H' => ∃ c, cls = cv.cv c ∧ XO c σ H')
theorem pe_rowcall (F : FnR CX X.prog X.w X.K X.mg X.base cv.cv n x ar g) (hr : Room n X.A) (L : XLink CX X ⟨cv.cv, XO⟩) (ha : PA X (e :: es) (tXA ⟨cv.cv, XO⟩ X.K as i)) (hg : Gl X x := by rfl) (hdb : (x == ("__debug__" : Str)) = false := by decide)
    (he : starEach (e :: es) X.env = (false, eval e X.env) :: starEach es X.env := by exact star_cons rfl) (hpl : (backTo pos (starEach es X.env)).any (·.1) = false := by exact star_any rfl) : PE X (.Call (.Name x p) (e :: es) [] pos) (tRC cv XO X.K as i ar g) := by
  obtain ⟨f, fd, ps, F, hm, hk, hb⟩ := F.ex
  intro pins s σ H Q I hA
  refine wpAny_Call_Name_kw (ld_glob I hg hm ?_ hdb)
  refine PySem.W.callWith_K (h₀ := X.base) I.ok.mod.kin hk (thn (ha pos pins s σ H _ I hA) fun us s1 ⟨vs, H1, I1, r, q⟩ => ⟨I1.kIn, ?_⟩) he hpl
  have hl : (us ++ []).length = ps.length := by rw [List.append_nil, ← r.length]; exact F.len _ _ _ _ q
  have hB := hb s1 us I1.kIn hl
  rw [List.append_nil] at hB
  refine wpAny_call (codeAny_mono (F.run X.A X.stack s1 H1 ⟨us, []⟩ us vs Q _ hr I1.env0 hB r q) fun r s' hq => ?_)
  cases r with
  | error e => exact L pins σ H1 s1 e s' I1 hq
  | ok fl =>
    cases fl with
    | ret u => exact I1.after hq
    | next => exact False.elim hq
    | brk => exact False.elim hq
    | cont => exact False.elim hq
theorem row_read {d : PyData} {rs' : List PyData} {Q : VK} {K : PySem.W.Frag} (hK : K = X.K) (gg : SR cv H₀ F ρ σ H) (hn : Nat.beq ar (as.length + 1) = true) (hc : callR g as i ρ = some (d, rs'))
    (k : ∀ q v H' xs', SR cv H₀ F (demE ρ i rs') σ H' → SO cv H₀ F (demE ρ i rs') σ H' (fun a => if a = q then some i else none) → H' q = some (.lst xs') → Reps (fun _ _ => False) H' rs' xs' → (∀ t, ρ[i]? = some (some (.lent t)) → q = cv.lend) → Rep (fun _ a => a ≠ q) H' d v → Q v H') :
    tRC cv XO K as i ar g σ H Q := by
  subst hK
  unfold callR at hc
  split at hc
  case h_2 => cases hc
  rename_i ds rs ha hr
  obtain ⟨O, o⟩ := gg.ex
  obtain ⟨q, xs, hσ, hO, hp, rrs, hlend⟩ := row_at o hr
  refine xa_read as ds H _ gg o hσ hO ha fun avs H1 s1 ra => ⟨q, xs, avs, rs, ds, d, rs', rfl, ?_, s1 _ _ hp, rrs.same s1, ra, hc, fun v H' xs' sm hq r' rv => ?_⟩
  · rw [ra.length, Nat.eq_of_beq_eq_true hn]
    clear hσ hO hp rrs hlend hr k s1 ra hn hc
    have : ∀ (as : List Arg) (ds : List PyData), argsD i ρ as = some ds → ds.length = as.length := by
      intro as
      induction as with
      | nil => intro ds h; cases h; rfl
      | cons a as ih =>
        intro ds h
        unfold argsD at h
        split at h
        · rename_i d ds' h1 h2
          cases h
          simp [ih _ h2]
        · cases h
    rw [this as ds ha]
  · obtain ⟨g2, o2⟩ := row_after (gg.same s1) (o.same s1) hr hσ hO (s1 _ _ hp) hlend sm hq r'
    exact k q v H' xs' g2 o2 hq r' hlend rv
theorem SR.putO {O : Own} {j : Nat} {v : V} {t : Slot} (g : SR cv H₀ F ρ σ H) (o : SO cv H₀ F ρ σ H O) (hi' : Nat.blt j cv.n = true) (ht : SS cv H₀ O (some (some v)) j H t) : SR cv H₀ F (ρ.set j (some t)) (σ.set j (some v)) H := by
  have hi : j < σ.length := by rw [g.ln]; exact Nat.ble_eq.mp hi'
  have hρ : j < ρ.length := by rw [g.len]; exact Nat.ble_eq.mp hi'
  refine ⟨g.s0, g.s1, by simp [g.len], by simp [g.ln], O, o.fr, o.ls, fun k t' e => ?_⟩
  by_cases hij : j = k
  · subst hij
    rw [set_get _ _ _ _ hρ, if_pos rfl] at e
    cases e
    rw [set_get _ _ _ _ hi, if_pos rfl]
    exact ht
  · rw [set_get _ _ _ _ hρ, if_neg hij] at e
    rw [set_get _ _ _ _ hi, if_neg hij]
    exact o.sl k t' e
/-! ### x = g(.., row), g(.., row), return g(.., row), return tuple(g(.., row)) -/
theorem s_xset (j : Nat) {y : Str} {pos' : Pos} (hnd : X.N.Nodup) (hp : PE X e (tRC cv XO X.K as i ar g)) (hn : Nat.beq ar (as.length + 1) = true := by rfl) (hj : X.N[j]? = some y := by rfl) (hy : Loc X.env.scope y := by first | exact Or.inl rfl | exact Or.inr rfl)
    (hs : swapsWith e (some (.Name y pos')) pos.line X.env = pure false := by rfl) (hf : X.fn y = true ∨ X.env.scope.names.lookup y = some .local := by first | exact .inl rfl | exact .inr rfl | assumption)
    (hjn : Nat.blt j cv.n = true := by rfl) : PS X (.Assign [.Name y pos'] e pos) (tS cv XO (sXset j g as i)) := by
  intro pins s σ H D I ⟨H₀, F, ρ, r, gg, e', k⟩
  refine ps_set hnd hj hy hp hs hf pins s σ H D I ?_
  unfold sXset at e'
  split at e'
  · rename_i d rs hc
    split at e'
    · cases e'
    · cases e'
      exact row_read (X := X) rfl gg hn hc fun q v H' xs' g2 o2 hq r' hl rv => k _ _ (g2.putO o2 hjn ⟨v, rfl, rv.imp fun _ a z => if_neg z⟩)
  · cases e'
theorem s_xexpr (hp : PE X e (tRC cv XO X.K as i ar g)) (hn : Nat.beq ar (as.length + 1) = true := by rfl) (hs : swapsWith e none pos.line X.env = pure false := by rfl) : PS X (.Expr e pos) (tS cv XO (sXexpr g as i)) := by
  intro pins s σ H D I ⟨H₀, F, ρ, r, gg, e', k⟩
  refine ps_expr hp hs pins s σ H D I ?_
  unfold sXexpr at e'
  split at e'
  · rename_i d rs hc
    cases e'
    exact row_read (X := X) rfl gg hn hc fun q v H' xs' g2 o2 hq r' hl rv => k _ _ g2
  · cases e'
theorem lent_is (h : isLent ρ i = true) : ∃ t, ρ[i]? = some (some (.lent t)) := by
  unfold isLent at h
  split at h
  · rename_i t ht; exact ⟨t, ht⟩
  · cases h
theorem xret_read {K : PySem.W.Frag} {D : Ends} {r : RS} (hK : K = X.K) (gg : SR cv H₀ F ρ σ H) (hn : Nat.beq ar (as.length + 1) = true) (e' : sXret g as i ρ = some r) (k : KS cv XO H₀ F D r) : tRC cv XO K as i ar g σ H D.rt := by
  unfold sXret at e'
  split at e'
  · rename_i d rs hc
    split at e'
    · rename_i hl
      cases e'
      obtain ⟨t, ht⟩ := lent_is hl
      exact row_read (X := X) hK gg hn hc fun q v H' xs' g2 o2 hq r' hl rv => by
        have := hl t ht
        subst this
        exact k v H' g2.s1 rv ⟨xs', hq, r'⟩
    · cases e'
  · cases e'
theorem s_xret (hp : PE X e (tRC cv XO X.K as i ar g)) (hn : Nat.beq ar (as.length + 1) = true := by rfl) : PS X (.Return (some e) pos) (tS cv XO (sXret g as i)) := by
  intro pins s σ H D I ⟨H₀, F, ρ, r, gg, e', k⟩
  exact ps_ret hp pins s σ H D I (xret_read (X := X) rfl gg hn e' k)
theorem s_xretIf {c a b : Expr} {fc : FE} {as2 : List Arg} {i2 ar2 : Nat} {g2 : FR} {ip : Pos} (hc : PT X c (tTest (tF ⟨cv.cv, XO⟩ fc))) (ha : PE X a (tRC cv XO X.K as i ar g)) (hb : PE X b (tRC cv XO X.K as2 i2 ar2 g2)) (hn : Nat.beq ar (as.length + 1) = true := by rfl) (hn2 : Nat.beq ar2 (as2.length + 1) = true := by rfl) :
    PS X (.Return (some (.IfExp c a b ip)) pos) (tS cv XO (sIf fc (sXret g as i) (sXret g2 as2 i2))) := by
  intro pins s σ H D I ⟨H₀, F, ρ, r, gg, e', k⟩
  refine ps_ret (pe_ifExp hc ha hb) pins s σ H D I ?_
  unfold sIf at e'
  refine tS_bind gg e' k fun l d v H1 s1 r1 e1 => ?_
  split at e1
  · exact ⟨true, r1, L2.iteT (xret_read (X := X) rfl (gg.same s1) hn e1 k)⟩
  · exact ⟨false, r1, L2.iteF (xret_read (X := X) rfl (gg.same s1) hn2 e1 k)⟩
  · cases e1
theorem s_xretT {tp : Pos} {tpos : Pos} (C : BC X) (hp : PE X e (tRC cv XO X.K as i ar g)) (hn : Nat.beq ar (as.length + 1) = true := by rfl) (hg : Gl X "tuple" := by rfl) (he : starEach [e] X.env = (false, eval e X.env) :: starEach [] X.env := by exact star_cons rfl) (hpl : (backTo tpos (starEach [] X.env)).any (·.1) = false := by exact star_any rfl) :
    PS X (.Return (some (.Call (.Name "tuple" tp) [e] [] tpos)) pos) (tS cv XO (sXretT g as i)) := by
  intro pins s σ H D I ⟨H₀, F, ρ, r, gg, e', k⟩
  refine ps_ret (pe_callTy call_tuple_of hg C.mtuple PyProof.Rows.boot_tuple (pa_cons hp pa_nil he) (by decide) (by decide) he hpl) pins s σ H D I ?_
  unfold sXretT at e'
  split at e'
  · rename_i xs rs hc
    split at e'
    · rename_i hl
      rw [Bool.and_eq_true] at hl
      cases e'
      obtain ⟨t, ht⟩ := lent_is hl.1
      refine row_read (X := X) rfl gg hn hc fun q v H' xs' g2 o2 hq r' hl' rv => ?_
      have := hl' t ht
      subst this
      obtain ⟨pa, vs, rfl, rl, rr⟩ := rv
      refine ⟨pa, vs, rfl, .inl ⟨.inl rl.rd, fun l hln => ?_⟩⟩
      have sn : Same H' (upd H' l (.tup vs)) := same_new hln _
      exact k _ _ (g2.s1.trans sn) ⟨l, vs, rfl, .inl upd_same, (rr.nl hl.2).same sn⟩ ⟨xs', sn _ _ hq, r'.same sn⟩
    · cases e'
  · cases e'
/-! ### return e, return x, return [x, y], of a def that is handed a row -/
theorem s_retL (i : Nat) {f : FE} (h : PE X e (tF ⟨cv.cv, XO⟩ f)) : PS X (.Return (some e) pos) (tS cv XO (sRetL i f)) := by
  intro pins s σ H D I ⟨H₀, F, ρ, r, gg, e', k⟩
  refine ps_ret h pins s σ H D I ?_
  unfold sRetL at e'
  split at e'
  · rename_i rs hρ
    obtain ⟨O, vs, o, hσ, hO, hp, rrs⟩ := gg.lentT hρ
    refine tS_bind gg e' k fun l d v H1 s1 r1 e1 => ?_
    split at e1
    · rename_i hc
      cases e1
      refine k v H1 (gg.s1.trans s1) ?_ ⟨vs, s1 _ _ hp, rrs.same s1⟩
      by_cases hl : lf d = true
      · exact r1.nl hl
      · have h2 : 2 ≤ l := by
          rw [Bool.or_eq_true] at hc
          exact of_decide_eq_true (hc.resolve_left hl)
        refine r1.imp fun z a pz y => ?_
        subst y
        match l, h2, pz with
        | l + 2, _, pz => rw [pz.2] at hp; cases hp
    · cases e1
  · cases e'
theorem s_retN (i j : Nat) {y : Str} {yp : Pos} (hN : X.N[j]? = some y := by rfl) (hv : Vis X.env.scope y := by first | exact Or.inl rfl | exact Or.inr (Or.inl rfl) | exact Or.inr (Or.inr rfl)) (hd : (y == ("__debug__" : Str)) = false := by decide) (hcd : (y == ("__classdict__" : Str)) = false := by decide) :
    PS X (.Return (some (.Name y yp)) pos) (tS cv XO (sRetN i j)) := by
  intro pins s σ H D I ⟨H₀, F, ρ, r, gg, e', k⟩
  refine ps_ret (pe_var (i := j) hN hv hd hcd) pins s σ H D I ?_
  unfold sRetN at e'
  split at e'
  · rename_i rs hρ
    obtain ⟨O, vs, o, hσ, hO, hp, rrs⟩ := gg.lentT hρ
    split at e'
    · rename_i d hd'
      cases e'
      split at hd'
      · cases hd'
      · rename_i hj
        obtain ⟨v, ev, rv⟩ := slot_rep o hO hj hd'
        exact ⟨v, ev, k v H gg.s1 rv ⟨vs, hp, rrs⟩⟩
    · cases e'
  · cases e'
theorem s_retP (i j k' : Nat) {y z : Str} {yp zp lp : Pos} (hN : X.N[j]? = some y := by rfl) (hv : Vis X.env.scope y := by first | exact Or.inl rfl | exact Or.inr (Or.inl rfl) | exact Or.inr (Or.inr rfl)) (hd : (y == ("__debug__" : Str)) = false := by decide) (hcd : (y == ("__classdict__" : Str)) = false := by decide)
    (hN2 : X.N[k']? = some z := by rfl) (hv2 : Vis X.env.scope z := by first | exact Or.inl rfl | exact Or.inr (Or.inl rfl) | exact Or.inr (Or.inr rfl)) (hd2 : (z == ("__debug__" : Str)) = false := by decide) (hcd2 : (z == ("__classdict__" : Str)) = false := by decide)
    (hs1 : starEach [.Name y yp, .Name z zp] X.env = (false, eval (.Name y yp) X.env) :: starEach [.Name z zp] X.env := by exact star_cons rfl) (hs2 : starEach [.Name z zp] X.env = (false, eval (.Name z zp) X.env) :: starEach [] X.env := by exact star_cons rfl) :
    PS X (.Return (some (.List [.Name y yp, .Name z zp] lp)) pos) (tS cv XO (sRetP i j k')) := by
  intro pins s σ H D I ⟨H₀, F, ρ, r, gg, e', k⟩
  refine ps_ret (pe_lst (pa_cons (pe_var (i := j) hN hv hd hcd) (pa_cons (pe_var (i := k') hN2 hv2 hd2 hcd2) pa_nil hs2) hs1)) pins s σ H D I ?_
  unfold sRetP at e'
  split at e'
  · rename_i rs hρ
    obtain ⟨O, vs, o, hσ, hO, hp, rrs⟩ := gg.lentT hρ
    split at e'
    · rename_i d1 d2 h1 h2
      cases e'
      split at h1
      · cases h1
      · rename_i hj
        split at h2
        · cases h2
        · rename_i hk
          obtain ⟨v1, ev1, rv1⟩ := slot_rep o hO hj h1
          obtain ⟨v2, ev2, rv2⟩ := slot_rep o hO hk h2
          refine ⟨v1, ev1, v2, ev2, (by decide : 2 ≤ sizeLine), fun l hln => ?_⟩
          have sn : Same H (upd H l (.lst [v1, v2])) := same_new hln _
          refine k _ _ (gg.s1.trans sn) ⟨l, [v1, v2], rfl, .inl ⟨fun y => ?_, upd_same⟩, v1, [v2], rfl, rv1.same sn, v2, [], rfl, rv2.same sn, rfl⟩ ⟨vs, sn _ _ hp, rrs.same sn⟩
          rw [y, hp] at hln
          cases hln
    · cases e'
  · cases e'
/-! ### x = y of lists of one's own -/
theorem s_move (j i : Nat) {x y : Str} {xp yp : Pos} (hnd : X.N.Nodup) (hN : X.N[i]? = some x := by rfl) (hv : Vis X.env.scope x := by first | exact Or.inl rfl | exact Or.inr (Or.inl rfl) | exact Or.inr (Or.inr rfl)) (hd : (x == ("__debug__" : Str)) = false := by decide) (hcd : (x == ("__classdict__" : Str)) = false := by decide)
    (hj : X.N[j]? = some y := by rfl) (hy : Loc X.env.scope y := by first | exact Or.inl rfl | exact Or.inr rfl) (hs : swapsWith (.Name x xp) (some (.Name y yp)) pos.line X.env = pure false := by rfl) (hf : X.fn y = true ∨ X.env.scope.names.lookup y = some .local := by first | exact .inl rfl | exact .inr rfl | assumption)
    (hjn : Nat.blt j cv.n = true := by rfl) : PS X (.Assign [.Name y yp] (.Name x xp) pos) (tS cv XO (sMove j i)) := by
  intro pins s σ H D I ⟨H₀, F, ρ, r, gg, e', k⟩
  refine ps_set hnd hj hy (pe_var (i := i) hN hv hd hcd) hs hf pins s σ H D I ?_
  unfold sMove at e'
  split at e'
  · rename_i ds hρ
    split at e'
    · cases e'
    · rename_i hij
      cases e'
      obtain ⟨O, q, vs, o, hσ, hO, hp, rs⟩ := gg.own hρ
      refine ⟨.ref q, hσ, k _ _ ?_⟩
      have hjσ : j < σ.length := by rw [gg.ln]; exact Nat.ble_eq.mp hjn
      have hjρ : j < (ρ.set i none).length := by rw [List.length_set, gg.len]; exact Nat.ble_eq.mp hjn
      have hiρ : i < ρ.length := (List.getElem?_eq_some_iff.mp hρ).1
      have hn : ∀ a, O a = none → (if a = q then some j else O a) = none := fun a z => by
        rw [if_neg (fun y => by rw [y, hO] at z; cases z)]
        exact z
      refine ⟨gg.s0, gg.s1, by simp [gg.len], by simp [gg.ln], fun a => if a = q then some j else O a, fun a m z => ?_, fun a m z => ?_, fun m t z => ?_⟩
      · by_cases y : a = q
        · subst y; exact o.fr a i hO
        · rw [if_neg y] at z; exact o.fr a m z
      · by_cases y : a = q
        · subst y; exact ⟨.l vs, hp⟩
        · rw [if_neg y] at z; exact o.ls a m z
      · by_cases hjm : j = m
        · subst hjm
          rw [set_get _ _ _ _ hjρ, if_pos rfl] at z
          cases z
          rw [set_get _ _ _ _ hjσ, if_pos rfl]
          exact ⟨q, vs, rfl, if_pos rfl, hp, rs⟩
        · rw [set_get _ _ _ _ hjρ, if_neg hjm] at z
          rw [set_get _ _ _ _ hjσ, if_neg hjm]
          by_cases him : i = m
          · subst him
            rw [set_get _ _ _ _ hiρ, if_pos rfl] at z
            cases z
          · rw [set_get _ _ _ _ hiρ, if_neg him] at z
            have sl := o.sl m t z
            have nq : ∀ a, O a = some m → a ≠ q := fun a w y => by rw [y, hO] at w; cases w; exact him rfl
            cases t with
            | par d => obtain ⟨w, e1, rr⟩ := sl; exact ⟨w, e1, rr.imp fun _ a z => hn a z⟩
            | loc d => obtain ⟨w, e1, rr⟩ := sl; exact ⟨w, e1, rr.imp fun _ a z => ⟨z.1, hn a z.2.1, z.2.2⟩⟩
            | own ds => obtain ⟨q1, ws, e1, hq, hqp, rs'⟩ := sl; exact ⟨q1, ws, e1, (if_neg (nq _ hq)).trans hq, hqp, rs'⟩
            | own2 ds => obtain ⟨q1, ws, e1, hq, hqp, rs'⟩ := sl; exact ⟨q1, ws, e1, (if_neg (nq _ hq)).trans hq, hqp, rs'.imp fun _ a z => ⟨z.1, hn a z.2.1, z.2.2⟩⟩
            | lent ds => obtain ⟨ws, e1, hq, hqp, rs'⟩ := sl; exact ⟨ws, e1, (if_neg (nq _ hq)).trans hq, hqp, rs'⟩
            | dct ks => obtain ⟨q1, e1, hq, hd⟩ := sl; exact ⟨q1, e1, (if_neg (nq _ hq)).trans hq, hd⟩
            | ex c => exact sl
  · cases e'
theorem SO.changeG {i : Nat} {t : Slot} {p : Addr} {o0 o1 : OwV} {O : Own} (o : SO cv H₀ F ρ σ H O) (hρ : i < ρ.length) (hO : O p = some i) (hp : H p = some o0.ho) (ht : SS cv H₀ O σ[i]? i (upd H p o1.ho) t) :
    SO cv H₀ F (ρ.set i (some t)) σ (upd H p o1.ho) O := by
  have hT : ∀ a xs, Rd H a (.tup xs) → Rd (upd H p o1.ho) a (.tup xs) := fun a xs e => rd_upd hp e
  have hL : ∀ {P : PP}, (∀ z a, P z a → O a = none) → ∀ a ws, Rl P H a ws → Rl P (upd H p o1.ho) a ws := fun {P} hP a ws rl => by
    have hne : ∀ z, P z a → a ≠ p := fun z q y => by have := hP z a q; rw [y, hO] at this; cases this
    rcases rl with ⟨q, e⟩ | ⟨q, u, e⟩
    · exact .inl ⟨q, by rw [upd_ne (hne _ q)]; exact e⟩
    · exact .inr ⟨q, u, by rw [upd_ne (hne _ q)]; exact e⟩
  refine ⟨o.fr, fun a j e => ?_, fun j t' e => ?_⟩
  · by_cases z : a = p
    · subst z; exact ⟨o1, upd_same⟩
    · rw [upd_ne z]; exact o.ls a j e
  · by_cases hij : i = j
    · subst hij
      rw [set_get _ _ _ _ hρ, if_pos rfl] at e
      cases e
      exact ht
    · rw [set_get _ _ _ _ hρ, if_neg hij] at e
      have q := o.sl j t' e
      cases t' with
      | par d => obtain ⟨w, e1, rr⟩ := q; exact ⟨w, e1, Rep.mono hT (hL fun _ _ x => x) d w rr⟩
      | loc d => obtain ⟨w, e1, rr⟩ := q; exact ⟨w, e1, Rep.mono hT (hL fun _ _ x => x.2.1) d w rr⟩
      | own ds =>
        obtain ⟨q1, ws, e1, hq, hqp, rs⟩ := q
        have hne : q1 ≠ p := fun z => by rw [z, hO] at hq; cases hq; exact hij rfl
        exact ⟨q1, ws, e1, hq, by rw [upd_ne hne]; exact hqp, Reps.mono hT (hL fun _ _ x => x.elim) _ _ rs⟩
      | own2 ds =>
        obtain ⟨q1, ws, e1, hq, hqp, rs⟩ := q
        have hne : q1 ≠ p := fun z => by rw [z, hO] at hq; cases hq; exact hij rfl
        exact ⟨q1, ws, e1, hq, by rw [upd_ne hne]; exact hqp, Reps.mono hT (hL fun _ _ x => x.2.1) _ _ rs⟩
      | lent ds =>
        obtain ⟨ws, e1, hq, hqp, rs⟩ := q
        have hne : cv.lend ≠ p := fun z => by rw [z, hO] at hq; cases hq; exact hij rfl
        exact ⟨ws, e1, hq, by rw [upd_ne hne]; exact hqp, Reps.mono hT (hL fun _ _ x => x.elim) _ _ rs⟩
      | dct ks =>
        obtain ⟨q1, e1, hq, hd⟩ := q
        have hne : q1 ≠ p := fun z => by rw [z, hO] at hq; cases hq; exact hij rfl
        exact ⟨q1, e1, hq, hd.upd hne⟩
      | ex c =>
        obtain ⟨w, e1, φ, hx, hφ⟩ := q
        have hne : w ≠ p := fun z => by rw [z, hp] at hx; cases o0 <;> cases hx
        exact ⟨w, e1, φ, by rw [upd_ne hne]; exact hx, hφ⟩
/-! ### x.append(y.pop(0)) -/
theorem s_appPop (i j : Nat) {x y : Str} {xp yp apos cpos ap2 cp2 kp : Pos} {c : Nat} (hN : X.N[i]? = some x := by rfl) (hv : Vis X.env.scope x := by first | exact Or.inl rfl | exact Or.inr (Or.inl rfl) | exact Or.inr (Or.inr rfl)) (hd : (x == ("__debug__" : Str)) = false := by decide) (hcd : (x == ("__classdict__" : Str)) = false := by decide)
    (hN2 : X.N[j]? = some y := by rfl) (hv2 : Vis X.env.scope y := by first | exact Or.inl rfl | exact Or.inr (Or.inl rfl) | exact Or.inr (Or.inr rfl)) (hd2 : (y == ("__debug__" : Str)) = false := by decide) (hcd2 : (y == ("__classdict__" : Str)) = false := by decide)
    (hbase : attributeBase (.Name x xp) "append" X.env (eval (.Name x xp) X.env) = eval (.Name x xp) X.env := by rfl) (hbase2 : attributeBase (.Name y yp) "pop" X.env (eval (.Name y yp) X.env) = eval (.Name y yp) X.env := by rfl)
    (hfew : ((backTo cpos (starEach [.Call (.Attribute (.Name y yp) "pop" ap2) [.Constant (.int 0) c kp] [] cp2] X.env)).all (fun x => !x.1) && (backToKw cpos (keywordEach [] X.env)).all (fun x => x.1.isSome)
      && decide ([Expr.Call (.Attribute (.Name y yp) "pop" ap2) [.Constant (.int 0) c kp] [] cp2].length + ([] : List Keyword).length + (if ([] : List Keyword).isEmpty then 0 else 1) < 30)) = true := by rfl)
    (hfew2 : ((backTo cp2 (starEach [.Constant (.int 0) c kp] X.env)).all (fun x => !x.1) && (backToKw cp2 (keywordEach [] X.env)).all (fun x => x.1.isSome)
      && decide ([Expr.Constant (.int 0) c kp].length + ([] : List Keyword).length + (if ([] : List Keyword).isEmpty then 0 else 1) < 30)) = true := by rfl)
    (hline : (apos.endLine == cpos.line) = true := by rfl) (hline2 : (ap2.endLine == cp2.line) = true := by rfl)
    (hs1 : starEach [.Call (.Attribute (.Name y yp) "pop" ap2) [.Constant (.int 0) c kp] [] cp2] X.env = (false, eval (.Call (.Attribute (.Name y yp) "pop" ap2) [.Constant (.int 0) c kp] [] cp2) X.env) :: starEach [] X.env := by rfl) (hplain : (backTo cpos (starEach [] X.env)).any (·.1) = false := by rfl)
    (hs2 : starEach [.Constant (.int 0) c kp] X.env = (false, eval (.Constant (.int 0) c kp) X.env) :: starEach [] X.env := by rfl) (hplain2 : (backTo cp2 (starEach [] X.env)).any (·.1) = false := by rfl)
    (hs : swapsWith (.Call (.Attribute (.Name x xp) "append" apos) [.Call (.Attribute (.Name y yp) "pop" ap2) [.Constant (.int 0) c kp] [] cp2] [] cpos) none pos.line X.env = pure false := by rfl) :
    PS X (.Expr (.Call (.Attribute (.Name x xp) "append" apos) [.Call (.Attribute (.Name y yp) "pop" ap2) [.Constant (.int 0) c kp] [] cp2] [] cpos) pos) (tS cv XO (sAppPop i j)) := by
  intro pins s σ H D I ⟨H₀, F, ρ, r, gg, e', k⟩
  refine ps_expr (pe_bm PySem.F.plainAttrs_list PySem.F.slot_list_append PySem.F.type_list_append mt_append (pe_var (i := i) hN hv hd hcd)
    (pa_cons (pe_bm PySem.F.plainAttrs_list PySem.F.slot_list_pop PySem.F.type_list_pop mt_popAt (pe_var (i := j) hN2 hv2 hd2 hcd2) (pa_cons pe_int pa_nil hs2) hbase2 hfew2 hline2 hs2 hplain2) pa_nil hs1) hbase hfew hline hs1 hplain) hs pins s σ H D I ?_
  unfold sAppPop at e'
  split at e'
  case h_2 => cases e'
  rename_i xs hi
  split at e'
  case h_2 => cases e'
  rename_i y' ys hj
  split at e'
  case isFalse => cases e'
  rename_i hc
  obtain ⟨hij, hlen, hlf⟩ := hc
  cases e'
  obtain ⟨O, o⟩ := gg.ex
  obtain ⟨p, vs, hσ, hO, hp, rs⟩ := o.sl i _ hi
  obtain ⟨q, ws, hσ2, hO2, hq, rs2⟩ := o.sl j _ hj
  have hpq : p ≠ q := fun z => by rw [z, hO2] at hO; cases hO; exact hij rfl
  obtain ⟨v, wr, rfl, rv, rr⟩ := rs2
  have hT : ∀ a xs, Rd H a (.tup xs) → Rd (upd H q (.lst wr)) a (.tup xs) := fun a xs h => rd_upd (o0 := .l (v :: wr)) hq h
  have fF : ∀ {ds : List PyData} {us : List V}, Reps (fun _ _ => False) H ds us → Reps (fun _ _ => False) (upd H q (.lst wr)) ds us := fun {ds us} r => Reps.mono hT (fun a ws rl => by rcases rl with ⟨z, _⟩ | ⟨z, _⟩ <;> exact z.elim) ds us r
  have g2 := gg.change o hj hσ2 hO2 hq rr
  have o2 : SO cv H₀ F (ρ.set j (some (.own ys))) σ (upd H q (.lst wr)) O :=
    o.changeG (o0 := .l (v :: wr)) (o1 := .l wr) (List.getElem?_eq_some_iff.mp hj).1 hO2 hq ⟨q, wr, hσ2, hO2, upd_same, fF rr⟩
  refine ⟨.ref p, hσ, .inl ⟨rfl, vs, SqL.of hp⟩, .ref q, hσ2, .inl ⟨rfl, v :: wr, SqL.of hq⟩, q, v :: wr, 0, 0, v, rfl, rfl, hq, by decide, by decide, by simp [seqIndex?], rfl, p, vs, v, rfl, rfl, by rw [upd_ne hpq]; exact hp, by rw [rs.length]; exact Nat.lt_of_lt_of_le hlen big_le, ?_⟩
  have hi2 : (ρ.set j (some (.own ys)))[i]? = some (some (.own xs)) := by
    rw [set_get _ _ _ _ (List.getElem?_eq_some_iff.mp hj).1, if_neg (Ne.symm hij)]; exact hi
  exact k _ _ (g2.change o2 hi2 hσ hO (by rw [upd_ne hpq]; exact hp) ((fF rs).append (Reps.one (Rep.mono hT (fun a ws rl => by rcases rl with ⟨z, _⟩ | ⟨z, _⟩ <;> exact z.elim) _ _ rv))))
end
end KT
set_option Elab.async false
set_option linter.all false
set_option maxRecDepth 100000
namespace KT
open PySem PySem.Spec PyProof.Rows L2
theorem noFill_tuple_mul : fillsNumberSlot (.type "tuple") "mul" = pure false :=
  PySem.fillsNumberSlot_seq (id := "tuple.__mul__") (r := some (.builtin "tuple.__rmul__")) PySem.F.slot_tuple_mul.lookup (by decide +kernel) PySem.F.slot_tuple_rmul.lookup (by decide +kernel)
theorem repeat_tuple : seqRepeat? (.type "tuple") = pure (some (.builtin "tuple.__mul__")) := by
  unfold seqRepeat?
  rw [PySem.seqSlot_of (T := "tuple") (name := "__mul__") (id := "tuple.__mul__") PySem.F.slot_tuple_mul.lookup (by decide +kernel), PySem.seqSlot_of (T := "tuple") (name := "__rmul__") (id := "tuple.__rmul__") PySem.F.slot_tuple_rmul.lookup (by decide +kernel)]
  rfl
theorem rmul_tuple (a : Int) (t : Tok) (l : Addr) (items : Array Value) (n : Nat) (dd : Option Addr) (sl : Array (Option Value)) :
    Meets (Builtin.«int.__rmul__» ⟨[.int a t, .ref l], []⟩) (fun _ R s => s.heap.get? l = some { cls := .type "tuple", dict := dd, data := .seq items n, slots := sl } ∧ R (.ok (.ret Value.notImplemented)) s) :=
  .of_wp fun prog w A R s h => by obtain ⟨hp, g, d, tk, os⟩ := s; obtain ⟨hl, h⟩ := h; wp_walk using wpAny_loadPart' hl; exact ⟨_, rfl, h⟩
theorem mul_tuple1 (t : Tok) (l : Addr) (items : Array Value) (n : Nat) (dd : Option Addr) (sl : Array (Option Value)) :
    Meets (Builtin.«tuple.__mul__» ⟨[.ref l, .int 1 t], []⟩) (fun _ R s => s.heap.get? l = some { cls := .type "tuple", dict := dd, data := .seq items n, slots := sl } ∧ R (.ok (.ret (.ref l))) s) :=
  .of_wp fun prog w A R s h => by obtain ⟨hp, g, d, tk, os⟩ := s; obtain ⟨hl, h⟩ := h; have f1 := AutoSeq1.idx_int; wp_walk using wpAny_loadPart' hl; exact ⟨_, rfl, h⟩
theorem mul_tuple0 (k : Int) (t : Tok) (l : Addr) (items : Array Value) (n : Nat) (dd : Option Addr) (sl : Array (Option Value)) (h1 : -(2 ^ 63) ≤ k) (h0 : k ≤ 0) (hne : items.isEmpty = false) :
    Meets (Builtin.«tuple.__mul__» ⟨[.ref l, .int k t], []⟩) (fun _ R s => s.heap.get? l = some { cls := .type "tuple", dict := dd, data := .seq items n, slots := sl } ∧ R (.ok (.ret (Value.ref s.heap.objs.size))) { s with heap := s.heap.push { cls := Value.type "tuple", data := Data.seq #[] }, toks := s.toks }) :=
  .of_wp fun prog w A R s h => by
    obtain ⟨hp, g, d, tk, os⟩ := s; obtain ⟨hl, h⟩ := h; have f1 := AutoSeq1.idx_int
    have e1 : (decide (k < -(2 ^ 63)) || decide (k ≥ 2 ^ 63)) = false := by rw [Bool.or_eq_false_iff]; exact ⟨decide_eq_false (by omega), decide_eq_false (by omega)⟩
    have e2 : (items.isEmpty || k == 1) = false := by rw [hne, Bool.false_or]; exact beq_eq_false_iff_ne.mpr (by omega)
    have e3 : (decide (k ≤ 0) || items.isEmpty) = true := by rw [decide_eq_true h0, Bool.true_or]
    wp_walk using wpAny_loadPart' hl
    refine wpAny_ite_false (decide_eq_false (by rw [e1]; exact Bool.false_ne_true)) ?_
    wp_walk using wpAny_loadPart' hl
    refine wpAny_ite_false (decide_eq_false (by rw [e2]; exact Bool.false_ne_true)) ?_
    wp_walk using wpAny_loadPart' hl
    exact ⟨_, rfl, h⟩
theorem mul_tupleN (k : Int) (t : Tok) (l : Addr) (items : Array Value) (n : Nat) (dd : Option Addr) (sl : Array (Option Value)) (h1 : k < 2 ^ 63) (h0 : 1 < k) (hne : items.isEmpty = false) (hz : items.size * k.toNat ≤ sizeLine) (hz2 : (List.foldl (fun x1 x2 => x1 ++ x2) #[] (List.replicate k.toNat items)).size ≤ sizeLine) :
    Meets (Builtin.«tuple.__mul__» ⟨[.ref l, .int k t], []⟩) (fun _ R s => s.heap.get? l = some { cls := .type "tuple", dict := dd, data := .seq items n, slots := sl } ∧ R (.ok (.ret (Value.ref s.heap.objs.size))) { s with heap := s.heap.push { cls := Value.type "tuple", data := Data.seq (List.foldl (fun x1 x2 => x1 ++ x2) #[] (List.replicate k.toNat items)) }, toks := s.toks }) :=
  .of_wp fun prog w A R s h => by
    obtain ⟨hp, g, d, tk, os⟩ := s; obtain ⟨hl, h⟩ := h; have f1 := AutoSeq1.idx_int
    have e1 : (decide (k < -(2 ^ 63)) || decide (k ≥ 2 ^ 63)) = false := by rw [Bool.or_eq_false_iff]; exact ⟨decide_eq_false (by omega), decide_eq_false (by omega)⟩
    have e2 : (items.isEmpty || k == 1) = false := by rw [hne, Bool.false_or]; exact beq_eq_false_iff_ne.mpr (by omega)
    have e3 : (decide (k ≤ 0) || items.isEmpty) = false := by rw [hne, Bool.or_false]; exact decide_eq_false (by omega)
    have hk : ((items.size : Int) * k) = ((items.size * k.toNat : Nat) : Int) := by rw [Int.natCast_mul, Int.toNat_of_nonneg (by omega)]
    have hs : (sizeLine : Nat) ≤ (2 ^ 63 - 1) / 8 := by decide
    wp_walk using wpAny_loadPart' hl
    refine wpAny_ite_false (decide_eq_false (by rw [e1]; exact Bool.false_ne_true)) ?_
    wp_walk using wpAny_loadPart' hl
    refine wpAny_ite_false (decide_eq_false (by rw [e2]; exact Bool.false_ne_true)) ?_
    wp_walk using wpAny_loadPart' hl
    refine wpAny_ite_false (decide_eq_false (by rw [e3]; exact Bool.false_ne_true)) ?_
    wp_walk using wpAny_loadPart' hl
    refine wpAny_ite_false (decide_eq_false (by rw [hk]; omega)) ?_
    wp_walk using wpAny_loadPart' hl
    refine wpAny_ite_false (decide_eq_false (by unfold Builtin.Tuple.tupleTooMany; rw [hk]; simp only [decide_eq_true_eq]; omega)) ?_
    wp_walk using wpAny_loadPart' hl
    exact ⟨_, rfl, h⟩
section
variable {X : Cx} {XO : XOT} {a b : Expr} {fa fb : FE} {pos : Pos}
def rRepT : R2 := fun x y H Q => ∃ l k xs, x = .ref l ∧ y = .int k ∧ Rd H l (.tup xs) ∧ xs ≠ [] ∧ -(2 ^ 63) ≤ k ∧ k < 2 ^ 63 ∧ xs.length * k.toNat ≤ sizeLine ∧
  (k = 1 → Q (.ref l) H) ∧ (k ≠ 1 → ∀ p, H p = none → Q (.ref p) (upd H p (.tup (List.replicate k.toNat xs).flatten)))
theorem op_repT : OpR X (binaryOp .Mult) rRepT := by
  intro pins s σ H x y v u Q I rx ry h
  obtain ⟨l, k, xs, rfl, rfl, hH, hne, h1, h2, hz, q1, q2⟩ := h
  cases rx
  obtain ⟨t, rfl⟩ := ry
  obtain ⟨its, r, p1, _⟩ := I.tuple (.inl hH)
  obtain ⟨⟨cls, dd, data, sl⟩, e, hc, n, hd⟩ := id p1
  simp only at hc hd
  subst hc hd
  have hl := r.length
  have hi : its ≠ [] := fun z => hne (r.nil_iff.mp z)
  have hie : its.toArray.isEmpty = false := by cases its with | nil => exact absurd rfl hi | cons a b => rfl
  have f0 : List.foldl (fun x1 x2 => x1 ++ x2) #[] (List.replicate k.toNat its.toArray) = (List.replicate k.toNat its).flatten.toArray := by
    have := foldl_rep its k.toNat []
    rw [List.nil_append] at this
    exact this
  refine wpAny_binaryOp_repeat_ref (T := "tuple") (U := "int") (by decide) ⟨_, e, rfl⟩ (fun s' => typeIs_int s' k t) noFill_tuple_mul F.fills_int_mul F.slot_int_rmul repeat_tuple F.slot_int_index.lookup
    (call_meets F.slot_int_rmul (typeIs_int s k t) F.entry_int_rmul (F.args_int_rmul_2 _ _) (rmul_tuple k t l its.toArray n dd sl)
      ⟨e, rfl, ⟨_, e, rfl⟩, ?_⟩)
  have lay : ∀ ys us, Vals ys us → ys.length ≤ sizeLine → (∀ p, H p = none → Q (.ref p) (upd H p (.tup ys))) → ∃ v H', Inv X pins σ H' { s with heap := s.heap.push { cls := Value.type "tuple", data := Data.seq us.toArray }, toks := s.toks } ∧ RelV v (Value.ref s.heap.objs.size) ∧ Q v H' := by
    intro ys us ru hy qq
    refine ⟨.ref s.heap.objs.size, _, I.laid (t' := s.toks) (o := .tup ys) (fun b ob q => Heap.get?_push_of_some _ q) (Nat.le_refl _) ?_, rfl, qq _ (I.hok.fresh (Nat.le_refl _))⟩
    exact ⟨hy, _, ru, IsTup.new _ _⟩
  by_cases k1 : k = 1
  · subst k1
    exact call_meets F.slot_tuple_mul ⟨_, e, rfl⟩ F.entry_tuple_mul (F.args_tuple_mul_2 _ _) (mul_tuple1 t l its.toArray n dd sl) ⟨e, .ref l, H, I, rfl, q1 rfl⟩
  · have q2 := q2 k1
    by_cases k0 : k ≤ 0
    · have e0 : k.toNat = 0 := by omega
      rw [e0] at q2
      exact call_meets F.slot_tuple_mul ⟨_, e, rfl⟩ F.entry_tuple_mul (F.args_tuple_mul_2 _ _) (mul_tuple0 k t l its.toArray n dd sl h1 k0 hie) ⟨e, lay [] [] .nil (Nat.zero_le _) q2⟩
    · have hlen : (List.replicate k.toNat xs).flatten.length ≤ sizeLine := by rw [len_rep, Nat.mul_comm]; exact hz
      refine call_meets F.slot_tuple_mul ⟨_, e, rfl⟩ F.entry_tuple_mul (F.args_tuple_mul_2 _ _) (mul_tupleN k t l its.toArray n dd sl h2 (by omega) hie (by rw [List.size_toArray, ← hl]; exact hz) (by rw [f0, List.size_toArray, len_rep, Nat.mul_comm, ← hl]; exact hz)) ⟨e, ?_⟩
      rw [f0]
      exact lay _ _ (r.rep k.toNat) hlen q2
theorem od_mulT : OpD rRepT dMulT true := by
  intro H₀ Hs H l m x y d v u Q s0 s1 e rx ry q
  unfold dMulT at e
  split at e
  · rename_i xs k
    split at e
    · rename_i hz
      simp only [Bool.and_eq_true, decide_eq_true_eq] at hz
      obtain ⟨⟨⟨f1, hz⟩, hk⟩, hne⟩ := hz
      cases e
      obtain ⟨pa, vs, rfl, ha, ra⟩ := rx
      cases (show u = .int k from ry)
      have l1 := ra.length
      have hb : big < 2 ^ 63 := by decide
      refine ⟨pa, k, vs, rfl, rfl, ha, fun z => ?_, by omega, by omega, by rw [l1]; exact le_big hz, fun k1 => ?_, fun _ p hp => ?_⟩
      · subst z; rw [← l1] at hne; exact absurd hne (by decide)
      · subst k1
        have : (List.replicate (1 : Int).toNat xs).flatten = xs := by show (List.replicate 1 xs).flatten = xs; simp
        rw [this] at q
        exact q _ H (Same.refl H) ⟨pa, vs, rfl, ha, ra.nl f1⟩
      · exact q _ _ (same_new hp _) ⟨p, _, rfl, .inl upd_same, ((ra.nl f1).rep _).same (same_new hp _)⟩
    · cases e
  · cases e
theorem x_mulT (ha : PE X a (tF XO fa)) (hb : PE X b (tF XO fb)) : PE X (.BinOp a .Mult b pos) (tF XO (eMulT fa fb)) := x_op op_repT od_mulT ha hb
end
end KT
set_option Elab.async false
set_option linter.all false
set_option maxRecDepth 100000
namespace KT
open PySem
def b_law_put (g_law_put : FC) : FS := (sSeq (sIf (eEq (eVar 1) (eTup [])) (sRet (eVar 2)) sNext) (sSeq (sSet 3 (eCall g_law_put [(eIx (eVar 0) (eAdd (eC (.int 1)) (eIx (eVar 1) (eC (.int 0))))), (eSl (eVar 1) (oSome (eC (.int 1))) oNone), (eVar 2)])) (sSeq (sIf (eEq (eIx (eVar 1) (eC (.int 0))) (eC (.int 0))) (sRet (eTup [(eIx (eVar 0) (eC (.int 0))), (eVar 3), (eIx (eVar 0) (eC (.int 2)))])) sNext) (sRet (eTup [(eIx (eVar 0) (eC (.int 0))), (eIx (eVar 0) (eC (.int 1))), (eVar 3)])))))
def b_law_here : FS := (sSeq (sIf (eLt (eLen (eVar 0)) (eC (.int 3))) (sRet (eC .none)) sNext) (sSeq (sSet 2 (eIx (eVar 0) (eC (.int 1)))) (sSeq (sSet 3 (eIx (eVar 0) (eC (.int 2)))) (sSeq (sIf (eEq (eVar 1) (eC (.str "swap"))) (sRet (eTup [(eIx (eVar 0) (eC (.int 0))), (eVar 3), (eVar 2)])) sNext) (sSeq (sIf (eAnd (eEq (eVar 1) (eC (.str "group"))) (eEq (eIx (eVar 2) (eC (.int 0))) (eIx (eVar 0) (eC (.int 0))))) (sRet (eTup [(eIx (eVar 0) (eC (.int 0))), (eIx (eVar 2) (eC (.int 1))), (eTup [(eIx (eVar 0) (eC (.int 0))), (eIx (eVar 2) (eC (.int 2))), (eVar 3)])])) sNext) (sSeq (sIf (eAnd (eEq (eVar 1) (eC (.str "spread"))) (eAnd (eEq (eIx (eVar 0) (eC (.int 0))) (eC (.str "both"))) (eEq (eIx (eVar 3) (eC (.int 0))) (eC (.str "either"))))) (sRet (eTup [(eC (.str "either")), (eTup [(eC (.str "both")), (eVar 2), (eIx (eVar 3) (eC (.int 1)))]), (eTup [(eC (.str "both")), (eVar 2), (eIx (eVar 3) (eC (.int 2)))])])) sNext) (sSeq (sIf (eAnd (eEq (eVar 1) (eC (.str "drop"))) (eAnd (eEq (eIx (eVar 0) (eC (.int 0))) (eC (.str "both"))) (eEq (eIx (eVar 2) (eC (.int 0))) (eC (.str "none"))))) (sRet (eTup [(eC (.str "none"))])) sNext) (sSeq (sIf (eAnd (eEq (eVar 1) (eC (.str "drop"))) (eIn (eTup [(eIx (eVar 0) (eC (.int 0))), (eIx (eVar 2) (eC (.int 0)))]) (eTup [(eTup [(eC (.str "both")), (eC (.str "one"))]), (eTup [(eC (.str "either")), (eC (.str "none"))])]))) (sRet (eVar 3)) sNext) (sRet (eC .none))))))))))
def b_law_whole : FS := (sRet (eAnd (eIs .int (eVar 0)) (eNot (eIs .bool (eVar 0)))))
def b_law_whole_thing (g_law_whole : FC) : FS := (sSeq (sSet 1 (eLst [(eVar 0)])) (sSeq (sWhile (eNe (eVar 1) (eLst [])) (sSeq (sPop 2 1) (sIf (eIs .tuple (eVar 2)) (sExtend 1 (eVar 2)) (sIf (eAnd (eNot (eCall g_law_whole [(eVar 2)])) (eNot (eIs .str (eVar 2)))) (sRet (eC (.bool false))) sNext)))) (sRet (eC (.bool true)))))
def b_law_gone (g_law_put : FC) (g_law_here : FC) (g_law_whole_thing : FC) : FS := (sSeq (sIf (eNot (eIs .list (eVar 1))) (sRet (eC .none)) sNext) (sSeq (sForV 1 (tgName 2) (sSeq (sIf (eOr (eNot (eIs .tuple (eVar 2))) (eOr (eNe (eLen (eVar 2)) (eC (.int 2))) (eNot (eIs .tuple (eIx (eVar 2) (eC (.int 1))))))) (sRet (eC .none)) sNext) (sSeq (sIf (eNot (eCall g_law_whole_thing [(eVar 2)])) (sRet (eC .none)) sNext) (sSeq (sSet 3 (eVar 0)) (sSeq (sFor (iSeq (eIx (eVar 2) (eC (.int 1)))) (tgName 4) (sSeq (sIf (eOr (eNotIn (eVar 4) (eTup [(eC (.int 0)), (eC (.int 1))])) (eLt (eLen (eVar 3)) (eC (.int 3)))) (sRet (eC .none)) sNext) (sSet 3 (eIx (eVar 3) (eAdd (eC (.int 1)) (eVar 4)))))) (sSeq (sSet 5 (eCall g_law_here [(eVar 3), (eIx (eVar 2) (eC (.int 0)))])) (sSeq (sIf (eIsN (eVar 5) (eC .none)) (sRet (eC .none)) sNext) (sSet 0 (eCall g_law_put [(eVar 0), (eIx (eVar 2) (eC (.int 1))), (eVar 5)]))))))))) (sRet (eVar 0))))
def b_merged : FS := (sSeq (sIf (eEq (eLen (eVar 0)) (eC (.int 0))) (sSeq (sAppendT 3 (eTup [(eC (.str "drop")), (eVar 2)])) (sRetL 3 (eList (eVar 1)))) sNext) (sSeq (sIf (eEq (eLen (eVar 1)) (eC (.int 0))) (sSeq (sAppendT 3 (eTup [(eC (.str "swap")), (eVar 2)])) (sSeq (sAppendT 3 (eTup [(eC (.str "drop")), (eVar 2)])) (sRetL 3 (eList (eVar 0))))) sNext) (sSeq (sSet 4 (eLst [])) (sSeq (sSet 5 (eList (eVar 0))) (sSeq (sSet 6 (eList (eVar 1))) (sSeq (sSet 7 (eVar 2)) (sSeq (sWhile (eOr (eGt (eLen (eVar 5)) (eC (.int 1))) (eLtG (eIx (eVar 6) (eC (.int 0))) (eIx (eVar 5) (eC (.int 0))))) (sIf (eLtG (eIx (eVar 6) (eC (.int 0))) (eIx (eVar 5) (eC (.int 0)))) (sSeq (sAppendT 3 (eTup [(eC (.str "swap")), (eVar 7)])) (sSeq (sMove 8 5) (sSeq (sMove 5 6) (sMove 6 8)))) (sSeq (sAppendT 3 (eTup [(eC (.str "group")), (eVar 7)])) (sSeq (sAppPop 4 5) (sSet 7 (eAdd (eVar 7) (eTup [(eC (.int 1))]))))))) (sRetL 3 (eAdd (eAdd (eVar 4) (eVar 5)) (eVar 6))))))))))
def b_in_line (g_merged : FR) (g_in_line : FR) : FS := (sSeq (sIf (eIs .tuple (eVar 0)) (sRetL 2 (eLst [(eVar 0)])) sNext) (sSeq (sIf (eEq (eVar 0) (eLst [])) (sRetL 2 (eLst [])) sNext) (sSeq (sXset 3 g_in_line [.x 0 0, .f (eAdd (eVar 1) (eTup [(eC (.int 0))]))] 2) (sSeq (sXset 4 g_in_line [.x 0 1, .f (eAdd (eVar 1) (eTup [(eC (.int 1))]))] 2) (sXret g_merged [.n 3, .n 4, .n 1] 2)))))
def b_is_barren (g_is_barren : FC) : FS := (sSeq (sSet 1 (eIx (eVar 0) (eC (.int 0)))) (sSeq (sIf (eEq (eVar 1) (eC (.str "either"))) (sRet (eAnd (eCall g_is_barren [(eIx (eVar 0) (eC (.int 1)))]) (eCall g_is_barren [(eIx (eVar 0) (eC (.int 2)))]))) sNext) (sSeq (sIf (eEq (eVar 1) (eC (.str "both"))) (sRet (eOr (eCall g_is_barren [(eIx (eVar 0) (eC (.int 1)))]) (eCall g_is_barren [(eIx (eVar 0) (eC (.int 2)))]))) sNext) (sRet (eEq (eVar 1) (eC (.str "none")))))))
def b_barren_tree (g_is_barren : FC) (g_tree_of : FR) : FS := (sSeq (sIf (eCall g_is_barren [(eIx (eVar 0) (eC (.int 1)))]) (sXexpr g_tree_of [.f (eIx (eVar 0) (eC (.int 1))), .f (eAdd (eVar 1) (eTup [(eC (.int 0))]))] 2) (sSeq (sXexpr g_tree_of [.f (eIx (eVar 0) (eC (.int 2))), .f (eAdd (eVar 1) (eTup [(eC (.int 1))]))] 2) (sAppendT 2 (eTup [(eC (.str "swap")), (eVar 1)])))) (sSeq (sAppendT 2 (eTup [(eC (.str "drop")), (eVar 1)])) (sRetL 2 (eLst []))))
def b_spread_tree (g_both_of_trees : FR) : FS := (sSeq (sIf (eEq (eVar 0) (eTup [])) (sSeq (sAppendT 3 (eTup [(eC (.str "drop")), (eVar 2)])) (sRetN 3 1)) sNext) (sSeq (sAppendT 3 (eTup [(eC (.str "spread")), (eVar 2)])) (sSeq (sXset 4 g_both_of_trees [.n 0, .x 1 0, .f (eAdd (eVar 2) (eTup [(eC (.int 0))]))] 3) (sSeq (sXset 5 g_both_of_trees [.n 0, .x 1 1, .f (eAdd (eVar 2) (eTup [(eC (.int 1))]))] 3) (sRetP 3 4 5)))))
def b_both_of_trees (g_merged : FR) (g_spread_tree : FR) : FS := (sSeq (sIf (eIs .list (eVar 0)) (sSeq (sAppendT 3 (eTup [(eC (.str "swap")), (eVar 2)])) (sXret g_spread_tree [.n 1, .n 0, .n 2] 3)) sNext) (sSeq (sIf (eIs .list (eVar 1)) (sXret g_spread_tree [.n 0, .n 1, .n 2] 3) sNext) (sXretT g_merged [.n 0, .n 1, .n 2] 3)))
def b_factors_in_line (g_merged : FR) (g_factors_in_line : FR) : FS := (sSeq (sIf (eNe (eIx (eVar 0) (eC (.int 0))) (eC (.str "both"))) (sRetL 2 (eLst [(eVar 0)])) sNext) (sSeq (sXset 3 g_factors_in_line [.f (eIx (eVar 0) (eC (.int 1))), .f (eAdd (eVar 1) (eTup [(eC (.int 0))]))] 2) (sSeq (sXset 4 g_factors_in_line [.f (eIx (eVar 0) (eC (.int 2))), .f (eAdd (eVar 1) (eTup [(eC (.int 1))]))] 2) (sXret g_merged [.n 3, .n 4, .n 1] 2))))
def b_product_tree (g_both_of_trees : FR) (g_tree_of : FR) (g_factors_in_line : FR) : FS := (sSeq (sXset 3 g_factors_in_line [.n 0, .n 1] 2) (sSeq (sSet 4 (eSub (eLen (eVar 3)) (eC (.int 1)))) (sSeq (sXset 5 g_tree_of [.f (eIx (eVar 3) (eVar 4)), .f (eAdd (eVar 1) (eMulT (eTup [(eC (.int 1))]) (eVar 4)))] 2) (sSeq (sFor (iDown (eSub (eVar 4) (eC (.int 1)))) (tgName 6) (sSeq (sSet 7 (eAdd (eVar 1) (eMulT (eTup [(eC (.int 1))]) (eVar 6)))) (sSeq (sXset 8 g_tree_of [.f (eIx (eVar 3) (eVar 6)), .f (eAdd (eVar 7) (eTup [(eC (.int 0))]))] 2) (sXset 5 g_both_of_trees [.n 8, .n 5, .n 7] 2)))) (sRetN 2 5)))))
def b_tree_of (g_tree_of : FR) (g_is_barren : FC) (g_barren_tree : FR) (g_product_tree : FR) : FS := (sSeq (sSet 3 (eIx (eVar 0) (eC (.int 0)))) (sSeq (sIf (eEq (eVar 3) (eC (.str "none"))) (sRetL 2 (eLst [])) sNext) (sSeq (sIf (eEq (eVar 3) (eC (.str "one"))) (sRetL 2 (eTup [])) sNext) (sSeq (sIf (eEq (eVar 3) (eC (.str "name"))) (sRetL 2 (eTup [(eIx (eVar 0) (eC (.int 1)))])) sNext) (sSeq (sIf (eEq (eVar 3) (eC (.str "both"))) (sIf (eCall g_is_barren [(eVar 0)]) (sXret g_barren_tree [.n 0, .n 1] 2) (sXret g_product_tree [.n 0, .n 1] 2)) sNext) (sSeq (sXset 4 g_tree_of [.f (eIx (eVar 0) (eC (.int 1))), .f (eAdd (eVar 1) (eTup [(eC (.int 0))]))] 2) (sSeq (sXset 5 g_tree_of [.f (eIx (eVar 0) (eC (.int 2))), .f (eAdd (eVar 1) (eTup [(eC (.int 1))]))] 2) (sSeq (sIf (eEq (eVar 4) (eLst [])) (sSeq (sAppendT 2 (eTup [(eC (.str "drop")), (eVar 1)])) (sRetN 2 5)) sNext) (sSeq (sIf (eEq (eVar 5) (eLst [])) (sSeq (sAppendT 2 (eTup [(eC (.str "swap")), (eVar 1)])) (sSeq (sAppendT 2 (eTup [(eC (.str "drop")), (eVar 1)])) (sRetN 2 4))) sNext) (sRetP 2 4 5))))))))))
def b_row_to_plain (g_in_line : FR) (g_tree_of : FR) : FS := (sSeq (sSet 1 (eLst [])) (sSeq (sXset 2 g_tree_of [.n 0, .f (eTup [])] 1) (sSeq (sXexpr g_in_line [.n 2, .f (eTup [])] 1) (sRet (eVar 1)))))
def b_law_plain : FS := (sSeq (sSet 1 (eLst [])) (sSeq (sForV 0 (tgName 2) (sSeq (sSet 3 (eTup [(eC (.str "one"))])) (sSeq (sFor (iEnum (eListRev (eVar 2))) (tgPair 4 5) (sSet 3 (eIf (eEq (eVar 4) (eC (.int 0))) (eTup [(eC (.str "name")), (eVar 5)]) (eTup [(eC (.str "both")), (eTup [(eC (.str "name")), (eVar 5)]), (eVar 3)])))) (sAppend 1 (eVar 3))))) (sSeq (sSet 6 (eTup [(eC (.str "none"))])) (sSeq (sFor (iEnum (eListRev (eVar 1))) (tgPair 4 3) (sSet 6 (eIf (eEq (eVar 4) (eC (.int 0))) (eVar 3) (eTup [(eC (.str "either")), (eVar 3), (eVar 6)])))) (sRet (eVar 6))))))
def b_law_bundles (g_law_bundles : FC) : FS := (sSeq (sIf (eEq (eLen (eVar 0)) (eC (.int 1))) (sRet (eMul (eLst [(eTup [])]) (eInt (eEq (eIx (eVar 0) (eC (.int 0))) (eC (.str "one")))))) sNext) (sSeq (sIf (eEq (eLen (eVar 0)) (eC (.int 2))) (sRet (eLst [(eTup [(eIx (eVar 0) (eC (.int 1)))])])) sNext) (sSeq (sSet 1 (eCall g_law_bundles [(eIx (eVar 0) (eC (.int 1)))])) (sSeq (sSet 2 (eCall g_law_bundles [(eIx (eVar 0) (eC (.int 2)))])) (sSeq (sIf (eEq (eIx (eVar 0) (eC (.int 0))) (eC (.str "either"))) (sRet (eSorted (eAdd (eVar 1) (eVar 2)))) sNext) (sSeq (sSet 3 (eLst [])) (sSeq (sForV 1 (tgName 4) (sForV 2 (tgName 5) (sAppend 3 (eTuple (eSorted (eAdd (eVar 4) (eVar 5))))))) (sRet (eSorted (eVar 3))))))))))
def b_law_draw : FS := (sSeq (sSet 3 (eMod (eAdd (eAdd (eMod (eVar 0) (eC (.int 2147483629))) (eC (.int 1))) (eMul (eVar 1) (eC (.int 1000003)))) (eC (.int 2147483647)))) (sSeq (sSet 3 (eMod (eMul (eMod (eMul (eVar 3) (eVar 3)) (eC (.int 2147483647))) (eC (.int 48271))) (eC (.int 2147483629)))) (sSeq (sSet 3 (eMod (eMul (eMod (eMul (eVar 3) (eVar 3)) (eC (.int 2147483629))) (eC (.int 40692))) (eC (.int 2147483399)))) (sRet (eMod (eDiv (eVar 3) (eC (.int 97))) (eVar 2))))))
def b_law_kind (g_law_kind : FC) (g_law_draw : FC) : FS := (sSeq (sIf (eLt (eVar 1) (eC (.int 2))) (sSeq (sSet 3 (eCall g_law_draw [(eVar 0), (eMul (eC (.int 5)) (eVar 2)), (eC (.int 12))])) (sSeq (sIf (eEq (eVar 3) (eC (.int 0))) (sRet (eTup [(eC (.str "none"))])) sNext) (sSeq (sIf (eLt (eVar 3) (eC (.int 3))) (sRet (eTup [(eC (.str "one"))])) sNext) (sRet (eTup [(eC (.str "name")), (eMod (eVar 3) (eC (.int 4)))]))))) sNext) (sSeq (sSet 4 (eAdd (eC (.int 1)) (eCall g_law_draw [(eVar 0), (eAdd (eMul (eC (.int 5)) (eVar 2)) (eC (.int 1))), (eSub (eVar 1) (eC (.int 1)))]))) (sSeq (sSet 5 (eIx (eLst [(eC (.str "either")), (eC (.str "both"))]) (eCall g_law_draw [(eVar 0), (eAdd (eMul (eC (.int 5)) (eVar 2)) (eC (.int 2))), (eC (.int 2))]))) (sRet (eTup [(eVar 5), (eCall g_law_kind [(eVar 0), (eVar 4), (eMul (eC (.int 2)) (eVar 2))]), (eCall g_law_kind [(eVar 0), (eSub (eVar 1) (eVar 4)), (eAdd (eMul (eC (.int 2)) (eVar 2)) (eC (.int 1)))])])))))
def b_law_stir : FS := (sSeq (sSet 1 (eC (.int 0))) (sSeq (sFor (iSeq (eLst [(eC (.int 48271)), (eC (.int 69621)), (eC (.int 39373)), (eC (.int 44488))])) (tgName 2) (sSeq (sSet 3 (eMod (eAdd (eMul (eVar 0) (eVar 2)) (eC (.int 7919))) (eC (.int 2147483647)))) (sSeq (sSet 3 (eMod (eMul (eMod (eMul (eVar 3) (eVar 3)) (eC (.int 2147483647))) (eC (.int 40692))) (eC (.int 2147483399)))) (sSet 1 (eAdd (eMul (eVar 1) (ePow (eC (.int 10)) (eC (.int 9)))) (eDiv (eVar 3) (eC (.int 7)))))))) (sRet (eVar 1))))
def b_law_cell (g_law_stir : FC) : FS := (sSeq (sIf (eLt (eVar 1) (eLen (eVar 0))) (sRet (eCall g_law_stir [(eIx (eVar 0) (eVar 1))])) sNext) (sRet (eCall g_law_stir [(eC (.int 0))])))
def b_law (g_law_gone : FC) (g_row_to_plain : FC) (g_law_plain : FC) (g_law_bundles : FC) (g_law_kind : FC) (g_law_cell : FC) : FS := (sSeq (sSet 1 (eCall g_law_kind [(eCall g_law_cell [(eVar 0), (eC (.int 0))]), (eAdd (eC (.int 1)) (eMod (eCall g_law_cell [(eVar 0), (eC (.int 1))]) (eC (.int 7)))), (eC (.int 1))])) (sSeq (sSet 2 (eCall g_law_plain [(eCall g_law_bundles [(eVar 1)])])) (sSeq (sFor (iR1 (eC (.int 2))) (tgName 3) (sSeq (sSet 4 (eCall g_row_to_plain [(eVar 1)])) (sSeq (sIf (eNe (eCall g_law_gone [(eVar 1), (eVar 4)]) (eVar 2)) (sRet (eC (.bool false))) sNext) (sAppend 4 (eTup [(eC (.str "drop")), (eTup [(eC (.int 0))])]))))) (sRet (eEq (eCall g_law_gone [(eVar 2), (eCall g_row_to_plain [(eVar 2)])]) (eVar 2))))))
def m_law_put : Nat → FC
  | 0 => fun _ => none
  | n + 1 => runB 4 (b_law_put (m_law_put n))
def m_law_here : Nat → FC
  | 0 => fun _ => none
  | n + 1 => runB 4 (b_law_here)
def m_law_whole : Nat → FC
  | 0 => fun _ => none
  | n + 1 => runB 1 (b_law_whole)
def m_law_whole_thing : Nat → FC
  | 0 => fun _ => none
  | n + 1 => runB 3 (b_law_whole_thing (m_law_whole n))
def m_law_gone : Nat → FC
  | 0 => fun _ => none
  | n + 1 => runB 6 (b_law_gone (m_law_put n) (m_law_here n) (m_law_whole_thing n))
def m_merged : Nat → FR
  | 0 => fun _ _ => none
  | n + 1 => runRw 9 (b_merged)
def m_in_line : Nat → FR
  | 0 => fun _ _ => none
  | n + 1 => runRw 5 (b_in_line (m_merged n) (m_in_line n))
def m_is_barren : Nat → FC
  | 0 => fun _ => none
  | n + 1 => runB 2 (b_is_barren (m_is_barren n))
mutual
def m_spread_tree : Nat → FR
  | 0 => fun _ _ => none
  | n + 1 => runRw 6 (b_spread_tree (m_both_of_trees n))
def m_both_of_trees : Nat → FR
  | 0 => fun _ _ => none
  | n + 1 => runRw 4 (b_both_of_trees (m_merged n) (m_spread_tree n))
end
def m_factors_in_line : Nat → FR
  | 0 => fun _ _ => none
  | n + 1 => runRw 5 (b_factors_in_line (m_merged n) (m_factors_in_line n))
mutual
def m_barren_tree : Nat → FR
  | 0 => fun _ _ => none
  | n + 1 => runRw 3 (b_barren_tree (m_is_barren n) (m_tree_of n))
def m_product_tree : Nat → FR
  | 0 => fun _ _ => none
  | n + 1 => runRw 9 (b_product_tree (m_both_of_trees n) (m_tree_of n) (m_factors_in_line n))
def m_tree_of : Nat → FR
  | 0 => fun _ _ => none
  | n + 1 => runRw 6 (b_tree_of (m_tree_of n) (m_is_barren n) (m_barren_tree n) (m_product_tree n))
end
def m_row_to_plain : Nat → FC
  | 0 => fun _ => none
  | n + 1 => runB 3 (b_row_to_plain (m_in_line n) (m_tree_of n))
def m_law_plain : Nat → FC
  | 0 => fun _ => none
  | n + 1 => runB 7 (b_law_plain)
def m_law_bundles : Nat → FC
  | 0 => fun _ => none
  | n + 1 => runB 6 (b_law_bundles (m_law_bundles n))
def m_law_draw : Nat → FC
  | 0 => fun _ => none
  | n + 1 => runB 4 (b_law_draw)
def m_law_kind : Nat → FC
  | 0 => fun _ => none
  | n + 1 => runB 6 (b_law_kind (m_law_kind n) (m_law_draw n))
def m_law_stir : Nat → FC
  | 0 => fun _ => none
  | n + 1 => runB 4 (b_law_stir)
def m_law_cell : Nat → FC
  | 0 => fun _ => none
  | n + 1 => runB 2 (b_law_cell (m_law_stir n))
def m_law : Nat → FC
  | 0 => fun _ => none
  | n + 1 => runB 5 (b_law (m_law_gone n) (m_row_to_plain n) (m_law_plain n) (m_law_bundles n) (m_law_kind n) (m_law_cell n))

end KT
set_option Elab.async false
set_option linter.all false
set_option maxRecDepth 100000
namespace KT
open PySem PySem.Spec PyProof.Rows L2
set_option maxHeartbeats 0
seal L2.PS L2.PSs L2.PE L2.PT L2.PW L2.PA L2.PI L2.PO
def top (i : Nat) : Stmt := PySem.Challenge.pw_kindturn_k10_whole_row_to_plain.main.body.getD i (.Pass ⟨0, 0, 0, 0⟩)
section
variable {P : Program} {w : World} {K : PySem.W.Frag} {mg : Str → Option Value} {base : Heap} {cv : Nat → Value} {n : Nat} {f : Addr} {fd : FuncData}
abbrev st_law_put : Stmt := top 19
theorem sc_law_put : FnScope ["kind", "path", "piece", "inner"] ["kind", "path", "piece"] (defScope st_law_put) := ⟨rfl, rfl, rfl, by decide +kernel, rfl, by decide +kernel, by decide +kernel⟩
theorem ok_law_put (M : MF mg) (F : Fun K "_law_put" "_law_put" st_law_put f fd) (F_law_put : FnF (CX1 P w) P w K mg base cv n "_law_put" 3 (m_law_put n)) : FnOk P w K mg base (CX1 P w) (n + 1) f fd ["kind", "path", "piece"] (spD cv 3 (m_law_put (n + 1))) :=
  fun_okD M F sc_law_put fun cdv A outer s H E B =>
    (by (refine b_cons (s_if (u_Eq B.C (x_var 1) (x_tup a_nil)) (b_one (s_ret (x_var 2))) b_nil) ?_); (refine b_cons (s_set 3 B.nd (x_call F_law_put B.hr B.L (a_cons (x_at (x_var 0) (x_add x_int (x_at (x_var 1) x_int))) (a_cons (x_sl (x_var 1) (o_some x_int) o_none) (a_cons (x_var 2) a_nil))))) ?_); (refine b_cons (s_if (u_Eq B.C (x_at (x_var 1) x_int) x_int) (b_one (s_ret (x_tup (a_cons (x_at (x_var 0) x_int) (a_cons (x_var 3) (a_cons (x_at (x_var 0) x_int) a_nil)))))) b_nil) ?_); exact b_one (s_ret (x_tup (a_cons (x_at (x_var 0) x_int) (a_cons (x_at (x_var 0) x_int) (a_cons (x_var 3) a_nil))))))
abbrev st_law_here : Stmt := top 18
theorem sc_law_here : FnScope ["kind", "word", "k", "m"] ["kind", "word"] (defScope st_law_here) := ⟨rfl, rfl, rfl, by decide +kernel, rfl, by decide +kernel, by decide +kernel⟩
theorem ok_law_here (M : MF mg) (F : Fun K "_law_here" "_law_here" st_law_here f fd) : FnOk P w K mg base (CX1 P w) (n + 1) f fd ["kind", "word"] (spD cv 2 (m_law_here (n + 1))) :=
  fun_okD M F sc_law_here fun cdv A outer s H E B =>
    (by (refine b_cons (s_if (u_Lt B.C (x_len B.C (x_var 0)) x_int) (b_one (s_ret x_non)) b_nil) ?_); (refine b_cons (s_set 2 B.nd (x_at (x_var 0) x_int)) ?_); (refine b_cons (s_set 3 B.nd (x_at (x_var 0) x_int)) ?_); (refine b_cons (s_if (u_Eq B.C (x_var 1) x_str) (b_one (s_ret (x_tup (a_cons (x_at (x_var 0) x_int) (a_cons (x_var 3) (a_cons (x_var 2) a_nil)))))) b_nil) ?_); (refine b_cons (s_if (L2.PW.pt (u_and (u_Eq B.C (x_var 1) x_str) (u_oneAnd (u_Eq B.C (x_at (x_var 2) x_int) (x_at (x_var 0) x_int))))) (b_one (s_ret (x_tup (a_cons (x_at (x_var 0) x_int) (a_cons (x_at (x_var 2) x_int) (a_cons (x_tup (a_cons (x_at (x_var 0) x_int) (a_cons (x_at (x_var 2) x_int) (a_cons (x_var 3) a_nil)))) a_nil)))))) b_nil) ?_); (refine b_cons (s_if (L2.PW.pt (u_and (u_Eq B.C (x_var 1) x_str) (u_and (u_Eq B.C (x_at (x_var 0) x_int) x_str) (u_oneAnd (u_Eq B.C (x_at (x_var 3) x_int) x_str))))) (b_one (s_ret (x_tup (a_cons x_str (a_cons (x_tup (a_cons x_str (a_cons (x_var 2) (a_cons (x_at (x_var 3) x_int) a_nil)))) (a_cons (x_tup (a_cons x_str (a_cons (x_var 2) (a_cons (x_at (x_var 3) x_int) a_nil)))) a_nil)))))) b_nil) ?_); (refine b_cons (s_if (L2.PW.pt (u_and (u_Eq B.C (x_var 1) x_str) (u_and (u_Eq B.C (x_at (x_var 0) x_int) x_str) (u_oneAnd (u_Eq B.C (x_at (x_var 2) x_int) x_str))))) (b_one (s_ret (x_tup (a_cons x_str a_nil)))) b_nil) ?_); (refine b_cons (s_if (L2.PW.pt (u_and (u_Eq B.C (x_var 1) x_str) (u_oneAnd (u_In B.C (x_tup (a_cons (x_at (x_var 0) x_int) (a_cons (x_at (x_var 2) x_int) a_nil))) (x_tup (a_cons (x_tup (a_cons x_str (a_cons x_str a_nil))) (a_cons (x_tup (a_cons x_str (a_cons x_str a_nil))) a_nil))))))) (b_one (s_ret (x_var 3))) b_nil) ?_); exact b_one (s_ret x_non))
abbrev st_law_whole : Stmt := top 14
theorem sc_law_whole : FnScope ["found"] ["found"] (defScope st_law_whole) := ⟨rfl, rfl, rfl, by decide +kernel, rfl, by decide +kernel, by decide +kernel⟩
theorem ok_law_whole (M : MF mg) (F : Fun K "_law_whole" "_law_whole" st_law_whole f fd) : FnOk P w K mg base (CX1 P w) (n + 1) f fd ["found"] (spD cv 1 (m_law_whole (n + 1))) :=
  fun_okD M F sc_law_whole fun cdv A outer s H E B =>
    (b_one (s_ret (x_and (x_isint B.C (x_var 0)) (x_one (x_not (x_isbool B.C (x_var 0)))))))
abbrev st_law_whole_thing : Stmt := top 17
theorem sc_law_whole_thing : FnScope ["found", "waiting", "one"] ["found"] (defScope st_law_whole_thing) := ⟨rfl, rfl, rfl, by decide +kernel, rfl, by decide +kernel, by decide +kernel⟩
theorem ok_law_whole_thing (M : MF mg) (F : Fun K "_law_whole_thing" "_law_whole_thing" st_law_whole_thing f fd) (F_law_whole : FnF (CX1 P w) P w K mg base cv n "_law_whole" 1 (m_law_whole n)) : FnOk P w K mg base (CX1 P w) (n + 1) f fd ["found"] (spD cv 1 (m_law_whole_thing (n + 1))) :=
  fun_okD M F sc_law_whole_thing fun cdv A outer s H E B =>
    (by (refine b_cons (s_set 1 B.nd (x_lst (a_cons (x_var 0) a_nil))) ?_); (refine b_cons (s_while B.pw (u_Ne B.C (x_var 1) (x_lst a_nil)) (by (refine b_cons (s_pop 2 1 B.nd) ?_); exact b_one (s_if (u_val (x_istuple B.C (x_var 2))) (b_one (s_extend 1 (x_var 2))) (b_one (s_if (L2.PW.pt (u_and (u_not (u_val (x_call F_law_whole B.hr B.L (a_cons (x_var 2) a_nil)))) (u_oneAnd (u_not (u_val (x_isstr B.C (x_var 2))))))) (b_one (s_ret x_bl)) b_nil))))) ?_); exact b_one (s_ret x_bl))
abbrev st_law_gone : Stmt := top 22
theorem sc_law_gone : FnScope ["kind", "row", "turning", "piece", "side", "made"] ["kind", "row"] (defScope st_law_gone) := ⟨rfl, rfl, rfl, by decide +kernel, rfl, by decide +kernel, by decide +kernel⟩
theorem ok_law_gone (M : MF mg) (F : Fun K "_law_gone" "_law_gone" st_law_gone f fd) (F_law_put : FnF (CX1 P w) P w K mg base cv n "_law_put" 3 (m_law_put n)) (F_law_here : FnF (CX1 P w) P w K mg base cv n "_law_here" 2 (m_law_here n)) (F_law_whole_thing : FnF (CX1 P w) P w K mg base cv n "_law_whole_thing" 1 (m_law_whole_thing n)) : FnOk P w K mg base (CX1 P w) (n + 1) f fd ["kind", "row"] (spD cv 2 (m_law_gone (n + 1))) :=
  fun_okD M F sc_law_gone fun cdv A outer s H E B =>
    (by (refine b_cons (s_if (u_not (u_val (x_islist B.C (x_var 1)))) (b_one (s_ret x_non)) b_nil) ?_); (refine b_cons (s_forV 1 B.pw B.hc (g_name 2 B.nd) (by (refine b_cons (s_if (L2.PW.pt (u_or (u_not (u_val (x_istuple B.C (x_var 2)))) (u_or (u_Ne B.C (x_len B.C (x_var 2)) x_int) (u_oneOr (u_not (u_val (x_istuple B.C (x_at (x_var 2) x_int)))))))) (b_one (s_ret x_non)) b_nil) ?_); (refine b_cons (s_if (u_not (u_val (x_call F_law_whole_thing B.hr B.L (a_cons (x_var 2) a_nil)))) (b_one (s_ret x_non)) b_nil) ?_); (refine b_cons (s_set 3 B.nd (x_var 0)) ?_); (refine b_cons (s_for B.pw B.hc (i_seq (x_at (x_var 2) x_int)) (g_name 4 B.nd) (by (refine b_cons (s_if (L2.PW.pt (u_or (u_NotIn B.C (x_var 4) (x_tup (a_cons x_int (a_cons x_int a_nil)))) (u_oneOr (u_Lt B.C (x_len B.C (x_var 3)) x_int)))) (b_one (s_ret x_non)) b_nil) ?_); exact b_one (s_set 3 B.nd (x_at (x_var 3) (x_add x_int (x_var 4)))))) ?_); (refine b_cons (s_set 5 B.nd (x_call F_law_here B.hr B.L (a_cons (x_var 3) (a_cons (x_at (x_var 2) x_int) a_nil)))) ?_); (refine b_cons (s_if (u_IsN B.C (x_var 5) x_non) (b_one (s_ret x_non)) b_nil) ?_); exact b_one (s_set 0 B.nd (x_call F_law_put B.hr B.L (a_cons (x_var 0) (a_cons (x_at (x_var 2) x_int) (a_cons (x_var 5) a_nil))))))) ?_); exact b_one (s_ret (x_var 0)))
abbrev st_merged : Stmt := top 10
theorem sc_merged : FnScope ["first", "second", "path", "row", "done", "lefts", "rights", "here", "others"] ["first", "second", "path", "row"] (defScope st_merged) := ⟨rfl, rfl, rfl, by decide +kernel, rfl, by decide +kernel, by decide +kernel⟩
theorem ok_merged (M : MF mg) (F : Fun K "merged" "merged" st_merged f fd) : FnOk P w K mg base (CX1 P w) (n + 1) f fd ["first", "second", "path", "row"] (spR cv 4 (m_merged (n + 1))) :=
  fun_okR M F sc_merged fun lend cdv A outer s H E B =>
    (by (refine b_cons (s_if (u_Eq B.C (x_len B.C (x_var 0)) x_int) (by (refine b_cons (s_appendT 3 (x_tup (a_cons x_str (a_cons (x_var 2) a_nil)))) ?_); exact b_one (s_retL 3 (x_list B.C (x_var 1)))) b_nil) ?_); (refine b_cons (s_if (u_Eq B.C (x_len B.C (x_var 1)) x_int) (by (refine b_cons (s_appendT 3 (x_tup (a_cons x_str (a_cons (x_var 2) a_nil)))) ?_); (refine b_cons (s_appendT 3 (x_tup (a_cons x_str (a_cons (x_var 2) a_nil)))) ?_); exact b_one (s_retL 3 (x_list B.C (x_var 0)))) b_nil) ?_); (refine b_cons (s_set 4 B.nd (x_lst a_nil)) ?_); (refine b_cons (s_set 5 B.nd (x_list B.C (x_var 0))) ?_); (refine b_cons (s_set 6 B.nd (x_list B.C (x_var 1))) ?_); (refine b_cons (s_set 7 B.nd (x_var 2)) ?_); (refine b_cons (s_while B.pw (L2.PW.pt (u_or (u_Gt B.C (x_len B.C (x_var 5)) x_int) (u_oneOr (u_LtG B.C (x_at (x_var 6) x_int) (x_at (x_var 5) x_int))))) (b_one (s_if (u_LtG B.C (x_at (x_var 6) x_int) (x_at (x_var 5) x_int)) (by (refine b_cons (s_appendT 3 (x_tup (a_cons x_str (a_cons (x_var 7) a_nil)))) ?_); (refine b_cons (s_move 8 5 B.nd) ?_); (refine b_cons (s_move 5 6 B.nd) ?_); exact b_one (s_move 6 8 B.nd)) (by (refine b_cons (s_appendT 3 (x_tup (a_cons x_str (a_cons (x_var 7) a_nil)))) ?_); (refine b_cons (s_appPop 4 5) ?_); exact b_one (s_set 7 B.nd (x_add (x_var 7) (x_tup (a_cons x_int a_nil)))))))) ?_); exact b_one (s_retL 3 (x_add (x_add (x_var 4) (x_var 5)) (x_var 6))))
abbrev st_in_line : Stmt := top 9
theorem sc_in_line : FnScope ["tree", "path", "row", "lefts", "rights"] ["tree", "path", "row"] (defScope st_in_line) := ⟨rfl, rfl, rfl, by decide +kernel, rfl, by decide +kernel, by decide +kernel⟩
theorem ok_in_line (M : MF mg) (F : Fun K "in_line" "in_line" st_in_line f fd) (F_merged : FnR (CX1 P w) P w K mg base cv n "merged" 4 (m_merged n)) (F_in_line : FnR (CX1 P w) P w K mg base cv n "in_line" 3 (m_in_line n)) : FnOk P w K mg base (CX1 P w) (n + 1) f fd ["tree", "path", "row"] (spR cv 3 (m_in_line (n + 1))) :=
  fun_okR M F sc_in_line fun lend cdv A outer s H E B =>
    (by (refine b_cons (s_if (u_val (x_istuple B.C (x_var 0))) (b_one (s_retL 2 (x_lst (a_cons (x_var 0) a_nil)))) b_nil) ?_); (refine b_cons (s_if (u_Eq B.C (x_var 0) (x_lst a_nil)) (b_one (s_retL 2 (x_lst a_nil))) b_nil) ?_); (refine b_cons (s_xset 3 B.nd (pe_rowcall F_in_line B.hr B.L (xa_x 0 0 (xa_f (x_add (x_var 1) (x_tup (a_cons x_int a_nil))) (xa_row 2))))) ?_); (refine b_cons (s_xset 4 B.nd (pe_rowcall F_in_line B.hr B.L (xa_x 0 1 (xa_f (x_add (x_var 1) (x_tup (a_cons x_int a_nil))) (xa_row 2))))) ?_); exact b_one (s_xret (pe_rowcall F_merged B.hr B.L (xa_n 3 (xa_n 4 (xa_n 1 (xa_row 2)))))))
abbrev st_is_barren : Stmt := top 1
theorem sc_is_barren : FnScope ["kind", "word"] ["kind"] (defScope st_is_barren) := ⟨rfl, rfl, rfl, by decide +kernel, rfl, by decide +kernel, by decide +kernel⟩
theorem ok_is_barren (M : MF mg) (F : Fun K "is_barren" "is_barren" st_is_barren f fd) (F_is_barren : FnF (CX1 P w) P w K mg base cv n "is_barren" 1 (m_is_barren n)) : FnOk P w K mg base (CX1 P w) (n + 1) f fd ["kind"] (spD cv 1 (m_is_barren (n + 1))) :=
  fun_okD M F sc_is_barren fun cdv A outer s H E B =>
    (by (refine b_cons (s_set 1 B.nd (x_at (x_var 0) x_int)) ?_); (refine b_cons (s_if (u_Eq B.C (x_var 1) x_str) (b_one (s_ret (x_and (x_call F_is_barren B.hr B.L (a_cons (x_at (x_var 0) x_int) a_nil)) (x_one (x_call F_is_barren B.hr B.L (a_cons (x_at (x_var 0) x_int) a_nil)))))) b_nil) ?_); (refine b_cons (s_if (u_Eq B.C (x_var 1) x_str) (b_one (s_ret (x_or (x_call F_is_barren B.hr B.L (a_cons (x_at (x_var 0) x_int) a_nil)) (x_one (x_call F_is_barren B.hr B.L (a_cons (x_at (x_var 0) x_int) a_nil)))))) b_nil) ?_); exact b_one (s_ret (x_Eq B.C (x_var 1) x_str)))
abbrev st_barren_tree : Stmt := top 4
theorem sc_barren_tree : FnScope ["kind", "path", "row"] ["kind", "path", "row"] (defScope st_barren_tree) := ⟨rfl, rfl, rfl, by decide +kernel, rfl, by decide +kernel, by decide +kernel⟩
theorem ok_barren_tree (M : MF mg) (F : Fun K "barren_tree" "barren_tree" st_barren_tree f fd) (F_is_barren : FnF (CX1 P w) P w K mg base cv n "is_barren" 1 (m_is_barren n)) (F_tree_of : FnR (CX1 P w) P w K mg base cv n "tree_of" 3 (m_tree_of n)) : FnOk P w K mg base (CX1 P w) (n + 1) f fd ["kind", "path", "row"] (spR cv 3 (m_barren_tree (n + 1))) :=
  fun_okR M F sc_barren_tree fun lend cdv A outer s H E B =>
    (by (refine b_cons (s_if (u_val (x_call F_is_barren B.hr B.L (a_cons (x_at (x_var 0) x_int) a_nil))) (b_one (s_xexpr (pe_rowcall F_tree_of B.hr B.L (xa_f (x_at (x_var 0) x_int) (xa_f (x_add (x_var 1) (x_tup (a_cons x_int a_nil))) (xa_row 2)))))) (by (refine b_cons (s_xexpr (pe_rowcall F_tree_of B.hr B.L (xa_f (x_at (x_var 0) x_int) (xa_f (x_add (x_var 1) (x_tup (a_cons x_int a_nil))) (xa_row 2))))) ?_); exact b_one (s_appendT 2 (x_tup (a_cons x_str (a_cons (x_var 1) a_nil)))))) ?_); (refine b_cons (s_appendT 2 (x_tup (a_cons x_str (a_cons (x_var 1) a_nil)))) ?_); exact b_one (s_retL 2 (x_lst a_nil)))
abbrev st_spread_tree : Stmt := top 8
theorem sc_spread_tree : FnScope ["first", "second", "path", "row", "left", "right"] ["first", "second", "path", "row"] (defScope st_spread_tree) := ⟨rfl, rfl, rfl, by decide +kernel, rfl, by decide +kernel, by decide +kernel⟩
theorem ok_spread_tree (M : MF mg) (F : Fun K "spread_tree" "spread_tree" st_spread_tree f fd) (F_both_of_trees : FnR (CX1 P w) P w K mg base cv n "both_of_trees" 4 (m_both_of_trees n)) : FnOk P w K mg base (CX1 P w) (n + 1) f fd ["first", "second", "path", "row"] (spR cv 4 (m_spread_tree (n + 1))) :=
  fun_okR M F sc_spread_tree fun lend cdv A outer s H E B =>
    (by (refine b_cons (s_if (u_Eq B.C (x_var 0) (x_tup a_nil)) (by (refine b_cons (s_appendT 3 (x_tup (a_cons x_str (a_cons (x_var 2) a_nil)))) ?_); exact b_one (s_retN 3 1)) b_nil) ?_); (refine b_cons (s_appendT 3 (x_tup (a_cons x_str (a_cons (x_var 2) a_nil)))) ?_); (refine b_cons (s_xset 4 B.nd (pe_rowcall F_both_of_trees B.hr B.L (xa_n 0 (xa_x 1 0 (xa_f (x_add (x_var 2) (x_tup (a_cons x_int a_nil))) (xa_row 3)))))) ?_); (refine b_cons (s_xset 5 B.nd (pe_rowcall F_both_of_trees B.hr B.L (xa_n 0 (xa_x 1 1 (xa_f (x_add (x_var 2) (x_tup (a_cons x_int a_nil))) (xa_row 3)))))) ?_); exact b_one (s_retP 3 4 5))
abbrev st_both_of_trees : Stmt := top 7
theorem sc_both_of_trees : FnScope ["first", "second", "path", "row"] ["first", "second", "path", "row"] (defScope st_both_of_trees) := ⟨rfl, rfl, rfl, by decide +kernel, rfl, by decide +kernel, by decide +kernel⟩
theorem ok_both_of_trees (M : MF mg) (F : Fun K "both_of_trees" "both_of_trees" st_both_of_trees f fd) (F_merged : FnR (CX1 P w) P w K mg base cv n "merged" 4 (m_merged n)) (F_spread_tree : FnR (CX1 P w) P w K mg base cv n "spread_tree" 4 (m_spread_tree n)) : FnOk P w K mg base (CX1 P w) (n + 1) f fd ["first", "second", "path", "row"] (spR cv 4 (m_both_of_trees (n + 1))) :=
  fun_okR M F sc_both_of_trees fun lend cdv A outer s H E B =>
    (by (refine b_cons (s_if (u_val (x_islist B.C (x_var 0))) (by (refine b_cons (s_appendT 3 (x_tup (a_cons x_str (a_cons (x_var 2) a_nil)))) ?_); exact b_one (s_xret (pe_rowcall F_spread_tree B.hr B.L (xa_n 1 (xa_n 0 (xa_n 2 (xa_row 3))))))) b_nil) ?_); (refine b_cons (s_if (u_val (x_islist B.C (x_var 1))) (b_one (s_xret (pe_rowcall F_spread_tree B.hr B.L (xa_n 0 (xa_n 1 (xa_n 2 (xa_row 3))))))) b_nil) ?_); exact b_one (s_xretT B.C (pe_rowcall F_merged B.hr B.L (xa_n 0 (xa_n 1 (xa_n 2 (xa_row 3)))))))
abbrev st_factors_in_line : Stmt := top 6
theorem sc_factors_in_line : FnScope ["kind", "path", "row", "firsts", "seconds"] ["kind", "path", "row"] (defScope st_factors_in_line) := ⟨rfl, rfl, rfl, by decide +kernel, rfl, by decide +kernel, by decide +kernel⟩
theorem ok_factors_in_line (M : MF mg) (F : Fun K "factors_in_line" "factors_in_line" st_factors_in_line f fd) (F_merged : FnR (CX1 P w) P w K mg base cv n "merged" 4 (m_merged n)) (F_factors_in_line : FnR (CX1 P w) P w K mg base cv n "factors_in_line" 3 (m_factors_in_line n)) : FnOk P w K mg base (CX1 P w) (n + 1) f fd ["kind", "path", "row"] (spR cv 3 (m_factors_in_line (n + 1))) :=
  fun_okR M F sc_factors_in_line fun lend cdv A outer s H E B =>
    (by (refine b_cons (s_if (u_Ne B.C (x_at (x_var 0) x_int) x_str) (b_one (s_retL 2 (x_lst (a_cons (x_var 0) a_nil)))) b_nil) ?_); (refine b_cons (s_xset 3 B.nd (pe_rowcall F_factors_in_line B.hr B.L (xa_f (x_at (x_var 0) x_int) (xa_f (x_add (x_var 1) (x_tup (a_cons x_int a_nil))) (xa_row 2))))) ?_); (refine b_cons (s_xset 4 B.nd (pe_rowcall F_factors_in_line B.hr B.L (xa_f (x_at (x_var 0) x_int) (xa_f (x_add (x_var 1) (x_tup (a_cons x_int a_nil))) (xa_row 2))))) ?_); exact b_one (s_xret (pe_rowcall F_merged B.hr B.L (xa_n 3 (xa_n 4 (xa_n 1 (xa_row 2)))))))
abbrev st_product_tree : Stmt := top 5
theorem sc_product_tree : FnScope ["kind", "path", "row", "factors", "last", "tree", "place", "here", "first"] ["kind", "path", "row"] (defScope st_product_tree) := ⟨rfl, rfl, rfl, by decide +kernel, rfl, by decide +kernel, by decide +kernel⟩
theorem ok_product_tree (M : MF mg) (F : Fun K "product_tree" "product_tree" st_product_tree f fd) (F_both_of_trees : FnR (CX1 P w) P w K mg base cv n "both_of_trees" 4 (m_both_of_trees n)) (F_tree_of : FnR (CX1 P w) P w K mg base cv n "tree_of" 3 (m_tree_of n)) (F_factors_in_line : FnR (CX1 P w) P w K mg base cv n "factors_in_line" 3 (m_factors_in_line n)) : FnOk P w K mg base (CX1 P w) (n + 1) f fd ["kind", "path", "row"] (spR cv 3 (m_product_tree (n + 1))) :=
  fun_okR M F sc_product_tree fun lend cdv A outer s H E B =>
    (by (refine b_cons (s_xset 3 B.nd (pe_rowcall F_factors_in_line B.hr B.L (xa_n 0 (xa_n 1 (xa_row 2))))) ?_); (refine b_cons (s_set 4 B.nd (x_sub (x_len B.C (x_var 3)) x_int)) ?_); (refine b_cons (s_xset 5 B.nd (pe_rowcall F_tree_of B.hr B.L (xa_f (x_at (x_var 3) (x_var 4)) (xa_f (x_add (x_var 1) (x_mulT (x_tup (a_cons x_int a_nil)) (x_var 4))) (xa_row 2))))) ?_); (refine b_cons (s_for B.pw B.hc (i_down B.C (x_sub (x_var 4) x_int)) (g_name 6 B.nd) (by (refine b_cons (s_set 7 B.nd (x_add (x_var 1) (x_mulT (x_tup (a_cons x_int a_nil)) (x_var 6)))) ?_); (refine b_cons (s_xset 8 B.nd (pe_rowcall F_tree_of B.hr B.L (xa_f (x_at (x_var 3) (x_var 6)) (xa_f (x_add (x_var 7) (x_tup (a_cons x_int a_nil))) (xa_row 2))))) ?_); exact b_one (s_xset 5 B.nd (pe_rowcall F_both_of_trees B.hr B.L (xa_n 8 (xa_n 5 (xa_n 7 (xa_row 2)))))))) ?_); exact b_one (s_retN 2 5))
abbrev st_tree_of : Stmt := top 3
theorem sc_tree_of : FnScope ["kind", "path", "row", "word", "first", "second"] ["kind", "path", "row"] (defScope st_tree_of) := ⟨rfl, rfl, rfl, by decide +kernel, rfl, by decide +kernel, by decide +kernel⟩
theorem ok_tree_of (M : MF mg) (F : Fun K "tree_of" "tree_of" st_tree_of f fd) (F_tree_of : FnR (CX1 P w) P w K mg base cv n "tree_of" 3 (m_tree_of n)) (F_is_barren : FnF (CX1 P w) P w K mg base cv n "is_barren" 1 (m_is_barren n)) (F_barren_tree : FnR (CX1 P w) P w K mg base cv n "barren_tree" 3 (m_barren_tree n)) (F_product_tree : FnR (CX1 P w) P w K mg base cv n "product_tree" 3 (m_product_tree n)) : FnOk P w K mg base (CX1 P w) (n + 1) f fd ["kind", "path", "row"] (spR cv 3 (m_tree_of (n + 1))) :=
  fun_okR M F sc_tree_of fun lend cdv A outer s H E B =>
    (by (refine b_cons (s_set 3 B.nd (x_at (x_var 0) x_int)) ?_); (refine b_cons (s_if (u_Eq B.C (x_var 3) x_str) (b_one (s_retL 2 (x_lst a_nil))) b_nil) ?_); (refine b_cons (s_if (u_Eq B.C (x_var 3) x_str) (b_one (s_retL 2 (x_tup a_nil))) b_nil) ?_); (refine b_cons (s_if (u_Eq B.C (x_var 3) x_str) (b_one (s_retL 2 (x_tup (a_cons (x_at (x_var 0) x_int) a_nil)))) b_nil) ?_); (refine b_cons (s_if (u_Eq B.C (x_var 3) x_str) (b_one (s_xretIf (u_val (x_call F_is_barren B.hr B.L (a_cons (x_var 0) a_nil))) (pe_rowcall F_barren_tree B.hr B.L (xa_n 0 (xa_n 1 (xa_row 2)))) (pe_rowcall F_product_tree B.hr B.L (xa_n 0 (xa_n 1 (xa_row 2)))))) b_nil) ?_); (refine b_cons (s_xset 4 B.nd (pe_rowcall F_tree_of B.hr B.L (xa_f (x_at (x_var 0) x_int) (xa_f (x_add (x_var 1) (x_tup (a_cons x_int a_nil))) (xa_row 2))))) ?_); (refine b_cons (s_xset 5 B.nd (pe_rowcall F_tree_of B.hr B.L (xa_f (x_at (x_var 0) x_int) (xa_f (x_add (x_var 1) (x_tup (a_cons x_int a_nil))) (xa_row 2))))) ?_); (refine b_cons (s_if (u_Eq B.C (x_var 4) (x_lst a_nil)) (by (refine b_cons (s_appendT 2 (x_tup (a_cons x_str (a_cons (x_var 1) a_nil)))) ?_); exact b_one (s_retN 2 5)) b_nil) ?_); (refine b_cons (s_if (u_Eq B.C (x_var 5) (x_lst a_nil)) (by (refine b_cons (s_appendT 2 (x_tup (a_cons x_str (a_cons (x_var 1) a_nil)))) ?_); (refine b_cons (s_appendT 2 (x_tup (a_cons x_str (a_cons (x_var 1) a_nil)))) ?_); exact b_one (s_retN 2 4)) b_nil) ?_); exact b_one (s_retP 2 4 5))
abbrev st_row_to_plain : Stmt := top 2
theorem sc_row_to_plain : FnScope ["kind", "row", "tree"] ["kind"] (defScope st_row_to_plain) := ⟨rfl, rfl, rfl, by decide +kernel, rfl, by decide +kernel, by decide +kernel⟩
theorem ok_row_to_plain (M : MF mg) (F : Fun K "row_to_plain" "row_to_plain" st_row_to_plain f fd) (F_in_line : FnR (CX1 P w) P w K mg base cv n "in_line" 3 (m_in_line n)) (F_tree_of : FnR (CX1 P w) P w K mg base cv n "tree_of" 3 (m_tree_of n)) : FnOk P w K mg base (CX1 P w) (n + 1) f fd ["kind"] (spD cv 1 (m_row_to_plain (n + 1))) :=
  fun_okD M F sc_row_to_plain fun cdv A outer s H E B =>
    (by (refine b_cons (s_set 1 B.nd (x_lst a_nil)) ?_); (refine b_cons (s_xset 2 B.nd (pe_rowcall F_tree_of B.hr B.L (xa_n 0 (xa_f (x_tup a_nil) (xa_row 1))))) ?_); (refine b_cons (s_xexpr (pe_rowcall F_in_line B.hr B.L (xa_n 2 (xa_f (x_tup a_nil) (xa_row 1))))) ?_); exact b_one (s_ret (x_var 1)))
abbrev st_law_plain : Stmt := top 21
theorem sc_law_plain : FnScope ["rows", "kinds", "names", "kind", "at", "name", "found"] ["rows"] (defScope st_law_plain) := ⟨rfl, rfl, rfl, by decide +kernel, rfl, by decide +kernel, by decide +kernel⟩
theorem ok_law_plain (M : MF mg) (F : Fun K "_law_plain" "_law_plain" st_law_plain f fd) : FnOk P w K mg base (CX1 P w) (n + 1) f fd ["rows"] (spD cv 1 (m_law_plain (n + 1))) :=
  fun_okD M F sc_law_plain fun cdv A outer s H E B =>
    (by (refine b_cons (s_set 1 B.nd (x_lst a_nil)) ?_); (refine b_cons (s_forV 0 B.pw B.hc (g_name 2 B.nd) (by (refine b_cons (s_set 3 B.nd (x_tup (a_cons x_str a_nil))) ?_); (refine b_cons (s_for B.pw B.hc (i_enum B.C.menum (x_listRevB B.C B.hc (x_var 2))) (g_pair 4 5 B.hc B.nd) (b_one (s_set 3 B.nd (x_ifx (u_Eq B.C (x_var 4) x_int) (x_tup (a_cons x_str (a_cons (x_var 5) a_nil))) (x_tup (a_cons x_str (a_cons (x_tup (a_cons x_str (a_cons (x_var 5) a_nil))) (a_cons (x_var 3) a_nil)))))))) ?_); exact b_one (s_append 1 (x_var 3)))) ?_); (refine b_cons (s_set 6 B.nd (x_tup (a_cons x_str a_nil))) ?_); (refine b_cons (s_for B.pw B.hc (i_enum B.C.menum (x_listRevB B.C B.hc (x_var 1))) (g_pair 4 3 B.hc B.nd) (b_one (s_set 6 B.nd (x_ifx (u_Eq B.C (x_var 4) x_int) (x_var 3) (x_tup (a_cons x_str (a_cons (x_var 3) (a_cons (x_var 6) a_nil)))))))) ?_); exact b_one (s_ret (x_var 6)))
abbrev st_law_bundles : Stmt := top 20
theorem sc_law_bundles : FnScope ["kind", "left", "right", "found", "one", "other"] ["kind"] (defScope st_law_bundles) := ⟨rfl, rfl, rfl, by decide +kernel, rfl, by decide +kernel, by decide +kernel⟩
theorem ok_law_bundles (M : MF mg) (F : Fun K "_law_bundles" "_law_bundles" st_law_bundles f fd) (F_law_bundles : FnF (CX1 P w) P w K mg base cv n "_law_bundles" 1 (m_law_bundles n)) (N_sorted : mg "sorted" = none) : FnOk P w K mg base (CX1 P w) (n + 1) f fd ["kind"] (spD cv 1 (m_law_bundles (n + 1))) :=
  fun_okD M F sc_law_bundles fun cdv A outer s H E B =>
    (by (refine b_cons (s_if (u_Eq B.C (x_len B.C (x_var 0)) x_int) (b_one (s_ret (x_mul (x_lst (a_cons (x_tup a_nil) a_nil)) (x_inti B.C (x_Eq B.C (x_at (x_var 0) x_int) x_str))))) b_nil) ?_); (refine b_cons (s_if (u_Eq B.C (x_len B.C (x_var 0)) x_int) (b_one (s_ret (x_lst (a_cons (x_tup (a_cons (x_at (x_var 0) x_int) a_nil)) a_nil)))) b_nil) ?_); (refine b_cons (s_set 1 B.nd (x_call F_law_bundles B.hr B.L (a_cons (x_at (x_var 0) x_int) a_nil))) ?_); (refine b_cons (s_set 2 B.nd (x_call F_law_bundles B.hr B.L (a_cons (x_at (x_var 0) x_int) a_nil))) ?_); (refine b_cons (s_if (u_Eq B.C (x_at (x_var 0) x_int) x_str) (b_one (s_ret (x_sorted B.C N_sorted (x_add (x_var 1) (x_var 2))))) b_nil) ?_); (refine b_cons (s_set 3 B.nd (x_lst a_nil)) ?_); (refine b_cons (s_forV 1 B.pw B.hc (g_name 4 B.nd) (b_one (s_forV 2 B.pw B.hc (g_name 5 B.nd) (b_one (s_append 3 (x_tuple B.C (x_sorted B.C N_sorted (x_add (x_var 4) (x_var 5))))))))) ?_); exact b_one (s_ret (x_sorted B.C N_sorted (x_var 3))))
abbrev st_law_draw : Stmt := top 15
theorem sc_law_draw : FnScope ["cell", "k", "bound", "stir"] ["cell", "k", "bound"] (defScope st_law_draw) := ⟨rfl, rfl, rfl, by decide +kernel, rfl, by decide +kernel, by decide +kernel⟩
theorem ok_law_draw (M : MF mg) (F : Fun K "_law_draw" "_law_draw" st_law_draw f fd) : FnOk P w K mg base (CX1 P w) (n + 1) f fd ["cell", "k", "bound"] (spD cv 3 (m_law_draw (n + 1))) :=
  fun_okD M F sc_law_draw fun cdv A outer s H E B =>
    (by (refine b_cons (s_set 3 B.nd (x_mod (x_add (x_add (x_mod (x_var 0) x_int) x_int) (x_mul (x_var 1) x_int)) x_int)) ?_); (refine b_cons (s_set 3 B.nd (x_mod (x_mul (x_mod (x_mul (x_var 3) (x_var 3)) x_int) x_int) x_int)) ?_); (refine b_cons (s_set 3 B.nd (x_mod (x_mul (x_mod (x_mul (x_var 3) (x_var 3)) x_int) x_int) x_int)) ?_); exact b_one (s_ret (x_mod (x_div (x_var 3) x_int) (x_var 2))))
abbrev st_law_kind : Stmt := top 16
theorem sc_law_kind : FnScope ["cell", "leaves", "k", "which", "left", "word"] ["cell", "leaves", "k"] (defScope st_law_kind) := ⟨rfl, rfl, rfl, by decide +kernel, rfl, by decide +kernel, by decide +kernel⟩
theorem ok_law_kind (M : MF mg) (F : Fun K "_law_kind" "_law_kind" st_law_kind f fd) (F_law_kind : FnF (CX1 P w) P w K mg base cv n "_law_kind" 3 (m_law_kind n)) (F_law_draw : FnF (CX1 P w) P w K mg base cv n "_law_draw" 3 (m_law_draw n)) : FnOk P w K mg base (CX1 P w) (n + 1) f fd ["cell", "leaves", "k"] (spD cv 3 (m_law_kind (n + 1))) :=
  fun_okD M F sc_law_kind fun cdv A outer s H E B =>
    (by (refine b_cons (s_if (u_Lt B.C (x_var 1) x_int) (by (refine b_cons (s_set 3 B.nd (x_call F_law_draw B.hr B.L (a_cons (x_var 0) (a_cons (x_mul x_int (x_var 2)) (a_cons x_int a_nil))))) ?_); (refine b_cons (s_if (u_Eq B.C (x_var 3) x_int) (b_one (s_ret (x_tup (a_cons x_str a_nil)))) b_nil) ?_); (refine b_cons (s_if (u_Lt B.C (x_var 3) x_int) (b_one (s_ret (x_tup (a_cons x_str a_nil)))) b_nil) ?_); exact b_one (s_ret (x_tup (a_cons x_str (a_cons (x_mod (x_var 3) x_int) a_nil))))) b_nil) ?_); (refine b_cons (s_set 4 B.nd (x_add x_int (x_call F_law_draw B.hr B.L (a_cons (x_var 0) (a_cons (x_add (x_mul x_int (x_var 2)) x_int) (a_cons (x_sub (x_var 1) x_int) a_nil)))))) ?_); (refine b_cons (s_set 5 B.nd (x_at (x_lst (a_cons x_str (a_cons x_str a_nil))) (x_call F_law_draw B.hr B.L (a_cons (x_var 0) (a_cons (x_add (x_mul x_int (x_var 2)) x_int) (a_cons x_int a_nil)))))) ?_); exact b_one (s_ret (x_tup (a_cons (x_var 5) (a_cons (x_call F_law_kind B.hr B.L (a_cons (x_var 0) (a_cons (x_var 4) (a_cons (x_mul x_int (x_var 2)) a_nil)))) (a_cons (x_call F_law_kind B.hr B.L (a_cons (x_var 0) (a_cons (x_sub (x_var 1) (x_var 4)) (a_cons (x_add (x_mul x_int (x_var 2)) x_int) a_nil)))) a_nil))))))
abbrev st_law_stir : Stmt := top 12
theorem sc_law_stir : FnScope ["cell", "found", "factor", "mixed"] ["cell"] (defScope st_law_stir) := ⟨rfl, rfl, rfl, by decide +kernel, rfl, by decide +kernel, by decide +kernel⟩
theorem ok_law_stir (M : MF mg) (F : Fun K "_law_stir" "_law_stir" st_law_stir f fd) : FnOk P w K mg base (CX1 P w) (n + 1) f fd ["cell"] (spD cv 1 (m_law_stir (n + 1))) :=
  fun_okD M F sc_law_stir fun cdv A outer s H E B =>
    (by (refine b_cons (s_set 1 B.nd x_int) ?_); (refine b_cons (s_for B.pw B.hc (i_seq (x_lst (a_cons x_int (a_cons x_int (a_cons x_int (a_cons x_int a_nil)))))) (g_name 2 B.nd) (by (refine b_cons (s_set 3 B.nd (x_mod (x_add (x_mul (x_var 0) (x_var 2)) x_int) x_int)) ?_); (refine b_cons (s_set 3 B.nd (x_mod (x_mul (x_mod (x_mul (x_var 3) (x_var 3)) x_int) x_int) x_int)) ?_); exact b_one (s_set 1 B.nd (x_add (x_mul (x_var 1) (x_pow x_int x_int)) (x_div (x_var 3) x_int))))) ?_); exact b_one (s_ret (x_var 1)))
abbrev st_law_cell : Stmt := top 13
theorem sc_law_cell : FnScope ["script", "k"] ["script", "k"] (defScope st_law_cell) := ⟨rfl, rfl, rfl, by decide +kernel, rfl, by decide +kernel, by decide +kernel⟩
theorem ok_law_cell (M : MF mg) (F : Fun K "_law_cell" "_law_cell" st_law_cell f fd) (F_law_stir : FnF (CX1 P w) P w K mg base cv n "_law_stir" 1 (m_law_stir n)) : FnOk P w K mg base (CX1 P w) (n + 1) f fd ["script", "k"] (spD cv 2 (m_law_cell (n + 1))) :=
  fun_okD M F sc_law_cell fun cdv A outer s H E B =>
    (by (refine b_cons (s_if (u_Lt B.C (x_var 1) (x_len B.C (x_var 0))) (b_one (s_ret (x_call F_law_stir B.hr B.L (a_cons (x_at (x_var 0) (x_var 1)) a_nil)))) b_nil) ?_); exact b_one (s_ret (x_call F_law_stir B.hr B.L (a_cons x_int a_nil))))
abbrev st_law : Stmt := top 23
theorem sc_law : FnScope ["script", "kind", "due", "turn", "row"] ["script"] (defScope st_law) := ⟨rfl, rfl, rfl, by decide +kernel, rfl, by decide +kernel, by decide +kernel⟩
theorem ok_law (M : MF mg) (F : Fun K "law" "law" st_law f fd) (F_law_gone : FnF (CX1 P w) P w K mg base cv n "_law_gone" 2 (m_law_gone n)) (F_row_to_plain : FnF (CX1 P w) P w K mg base cv n "row_to_plain" 1 (m_row_to_plain n)) (F_law_plain : FnF (CX1 P w) P w K mg base cv n "_law_plain" 1 (m_law_plain n)) (F_law_bundles : FnF (CX1 P w) P w K mg base cv n "_law_bundles" 1 (m_law_bundles n)) (F_law_kind : FnF (CX1 P w) P w K mg base cv n "_law_kind" 3 (m_law_kind n)) (F_law_cell : FnF (CX1 P w) P w K mg base cv n "_law_cell" 2 (m_law_cell n)) : FnOk P w K mg base (CX1 P w) (n + 1) f fd ["script"] (spD cv 1 (m_law (n + 1))) :=
  fun_okD M F sc_law fun cdv A outer s H E B =>
    (by (refine b_cons (s_set 1 B.nd (x_call F_law_kind B.hr B.L (a_cons (x_call F_law_cell B.hr B.L (a_cons (x_var 0) (a_cons x_int a_nil))) (a_cons (x_add x_int (x_mod (x_call F_law_cell B.hr B.L (a_cons (x_var 0) (a_cons x_int a_nil))) x_int)) (a_cons x_int a_nil))))) ?_); (refine b_cons (s_set 2 B.nd (x_call F_law_plain B.hr B.L (a_cons (x_call F_law_bundles B.hr B.L (a_cons (x_var 1) a_nil)) a_nil))) ?_); (refine b_cons (s_for B.pw B.hc (i_r1 B.C x_int) (g_name 3 B.nd) (by (refine b_cons (s_set 4 B.nd (x_call F_row_to_plain B.hr B.L (a_cons (x_var 1) a_nil))) ?_); (refine b_cons (s_if (u_Ne B.C (x_call F_law_gone B.hr B.L (a_cons (x_var 1) (a_cons (x_var 4) a_nil))) (x_var 2)) (b_one (s_ret x_bl)) b_nil) ?_); exact b_one (s_append 4 (x_tup (a_cons x_str (a_cons (x_tup (a_cons x_int a_nil)) a_nil)))))) ?_); exact b_one (s_ret (x_Eq B.C (x_call F_law_gone B.hr B.L (a_cons (x_var 2) (a_cons (x_call F_row_to_plain B.hr B.L (a_cons (x_var 2) a_nil)) a_nil))) (x_var 2))))
end

end KT
set_option Elab.async false
set_option linter.all false
set_option maxRecDepth 100000
namespace KT
open PySem
/-! ### reading a def's body: the combinators at values -/
section
variable {ρ ρ' : Rho} {l m : Nat} {d x y : PyData} {c : Nat} {f g : FE} {a b : FS}
theorem mod_ok {i j : Int} (h : 0 < j) : dMod (.int i) (.int j) = some (.int (i % j)) := if_pos h
theorem mulR {i j : Int} (h : j.natAbs < 2 ^ 64) : CMulD i j := .inr (.inl h)
theorem mulL {i j : Int} (h : i.natAbs < 2 ^ 64) : CMulD i j := .inl h
theorem asg_lf {l : Nat} {d : PyData} (h : lf d = true) : asg l d = some (.loc d) := if_pos h
theorem asg_own {ds : List PyData} (h : lfs ds = true) : asg 2 (.list ds) = some (.own ds) := by simp [asg, lf, h]
end
theorem eqII (i j : Int) : dEq (.int i) (.int j) = some (.bool (i == j)) := rfl
theorem eqSS (i j : Str) : dEq (.str i) (.str j) = some (.bool (i == j)) := rfl
theorem neII (i j : Int) : dNe (.int i) (.int j) = some (.bool (!(i == j))) := rfl
theorem neSS (i j : Str) : dNe (.str i) (.str j) = some (.bool (!(i == j))) := rfl
theorem addII (i j : Int) : dAdd (.int i) (.int j) = some (.int (i + j)) := rfl
theorem subII (i j : Int) : dSub (.int i) (.int j) = some (.int (i - j)) := rfl
theorem seq_next {a b : FS} {ρ ρ' : Rho} (h : a ρ = some (.next ρ')) : sSeq a b ρ = b ρ' := by unfold sSeq; rw [h]
theorem run_ret {n : Nat} {b : FS} {ds : List PyData} {d : PyData} (h : b (ds.map (fun d => some (.par d)) ++ List.replicate (n - ds.length) none) = some (.ret d)) : runB n b ds = some (.ok d) := by unfold runB; rw [h]
end KT
set_option Elab.async false
set_option linter.all false
set_option maxRecDepth 100000
namespace KT
open PySem
/-! ### kinds -/
inductive Kd where
  | none
  | one
  | name (i : Int)
  | either (a b : Kd)
  | both (a b : Kd)
def enc : Kd → PyData
  | .none => .tuple [.str "none"]
  | .one => .tuple [.str "one"]
  | .name i => .tuple [.str "name", .int i]
  | .either a b => .tuple [.str "either", enc a, enc b]
  | .both a b => .tuple [.str "both", enc a, enc b]
def Kd.leaves : Kd → Nat
  | .either a b => a.leaves + b.leaves
  | .both a b => a.leaves + b.leaves
  | _ => 1
def Kd.Ok : Kd → Prop
  | .name i => 0 ≤ i ∧ i ≤ 3
  | .either a b => a.Ok ∧ b.Ok
  | .both a b => a.Ok ∧ b.Ok
  | _ => True
theorem Kd.pos : ∀ k : Kd, 1 ≤ k.leaves
  | .none => Nat.le_refl _
  | .one => Nat.le_refl _
  | .name _ => Nat.le_refl _
  | .either a b => by have := a.pos; simp only [leaves]; omega
  | .both a b => by have := a.pos; simp only [leaves]; omega
theorem enc_lf : ∀ k : Kd, lf (enc k) = true
  | .none => rfl
  | .one => rfl
  | .name _ => rfl
  | .either a b => by simp [enc, lf, lfs, enc_lf a, enc_lf b]
  | .both a b => by simp [enc, lf, lfs, enc_lf a, enc_lf b]
theorem ok_none : PyData.strOk "none" = true := by decide +kernel
theorem ok_one : PyData.strOk "one" = true := by decide +kernel
theorem ok_name : PyData.strOk "name" = true := by decide +kernel
theorem ok_either : PyData.strOk "either" = true := by decide +kernel
theorem ok_both : PyData.strOk "both" = true := by decide +kernel
theorem enc_lay : ∀ k : Kd, (enc k).canLay0 = true
  | .none => by simp [enc, PyData.canLay0, PyData.canLayAll0, ok_none]
  | .one => by simp [enc, PyData.canLay0, PyData.canLayAll0, ok_one]
  | .name _ => by simp [enc, PyData.canLay0, PyData.canLayAll0, ok_name]
  | .either a b => by simp [enc, PyData.canLay0, PyData.canLayAll0, ok_either, enc_lay a, enc_lay b]
  | .both a b => by simp [enc, PyData.canLay0, PyData.canLayAll0, ok_both, enc_lay a, enc_lay b]
theorem enc_depth : ∀ k : Kd, (enc k).depth ≤ k.leaves
  | .none => by simp [enc, PyData.depth, PyData.depthAll, Kd.leaves]
  | .one => by simp [enc, PyData.depth, PyData.depthAll, Kd.leaves]
  | .name _ => by simp [enc, PyData.depth, PyData.depthAll, Kd.leaves]
  | .either a b => by
    have := enc_depth a; have := enc_depth b; have := a.pos; have := b.pos
    simp [enc, PyData.depth, PyData.depthAll, Kd.leaves]; omega
  | .both a b => by
    have := enc_depth a; have := enc_depth b; have := a.pos; have := b.pos
    simp [enc, PyData.depth, PyData.depthAll, Kd.leaves]; omega
/-! ### words differ -/
theorem w01 : (("either" : Str) == "none") = false := by decide +kernel
theorem w02 : (("either" : Str) == "one") = false := by decide +kernel
theorem w03 : (("either" : Str) == "name") = false := by decide +kernel
theorem w04 : (("both" : Str) == "none") = false := by decide +kernel
theorem w05 : (("both" : Str) == "one") = false := by decide +kernel
theorem w06 : (("both" : Str) == "name") = false := by decide +kernel
theorem w07 : (("both" : Str) == "either") = false := by decide +kernel
theorem w08 : (("one" : Str) == "none") = false := by decide +kernel
theorem w09 : (("name" : Str) == "none") = false := by decide +kernel
theorem w10 : (("name" : Str) == "one") = false := by decide +kernel
theorem w11 : (("none" : Str) == "one") = false := by decide +kernel
theorem w12 : (("either" : Str) == "both") = false := by decide +kernel
theorem w13 : (("none" : Str) == "either") = false := by decide +kernel
theorem w14 : (("none" : Str) == "both") = false := by decide +kernel
theorem w15 : (("one" : Str) == "either") = false := by decide +kernel
theorem w16 : (("one" : Str) == "both") = false := by decide +kernel
theorem w17 : (("name" : Str) == "either") = false := by decide +kernel
theorem w18 : (("name" : Str) == "both") = false := by decide +kernel
end KT
set_option Elab.async false
set_option linter.all false
set_option maxRecDepth 100000
namespace KT
open PySem
/-! ### bundles: rows of names -/
theorem rsort_perm (l : List (List Int)) : (gsort lexL l).Perm l := by
  rw [show (lexL : List Int → List Int → Bool) = HT.lexLt from funext fun a => funext fun b => lexL_eq a b]
  exact gsort_perm (O := rowOrd) l
theorem rsort_eq {l m : List (List Int)} (h : l.Perm m) : gsort lexL l = gsort lexL m := by
  rw [show (lexL : List Int → List Int → Bool) = HT.lexLt from funext fun a => funext fun b => lexL_eq a b]
  exact gsort_uniq (O := rowOrd) ((gsort_perm (O := rowOrd) l).trans h) (gsort_rise (O := rowOrd) l)
theorem rsort_idem (l : List (List Int)) : gsort lexL (gsort lexL l) = gsort lexL l := rsort_eq (rsort_perm l)
theorem isort_perm (l : List Int) : (gsort ltI l).Perm l := gsort_perm (O := intOrd) l
theorem isort_eq {l m : List Int} (h : l.Perm m) : gsort ltI l = gsort ltI m := gsort_uniq (O := intOrd) ((gsort_perm (O := intOrd) l).trans h) (gsort_rise (O := intOrd) l)
theorem isort_len (l : List Int) : (gsort ltI l).length = l.length := (isort_perm l).length_eq
theorem rsort_len (l : List (List Int)) : (gsort lexL l).length = l.length := (rsort_perm l).length_eq
def row2 (x : List Int) (ys : List (List Int)) : List (List Int) := ys.map fun y => gsort ltI (x ++ y)
def pairs (xs ys : List (List Int)) : List (List Int) := xs.flatMap fun x => row2 x ys
theorem pairs_nil (xs : List (List Int)) : pairs xs [] = [] := by
  induction xs with
  | nil => rfl
  | cons x xs ih => simpa [pairs, row2] using ih
theorem pairs_cons (x : List Int) (xs ys : List (List Int)) : pairs (x :: xs) ys = row2 x ys ++ pairs xs ys := rfl
theorem pairs_len (xs ys : List (List Int)) : (pairs xs ys).length = xs.length * ys.length := by
  induction xs with
  | nil => simp [pairs]
  | cons x xs ih => rw [pairs_cons, List.length_append, ih, List.length_cons, Nat.succ_mul, Nat.add_comm]; simp [row2]
theorem pairs_perm {xs xs' ys ys' : List (List Int)} (hx : xs.Perm xs') (hy : ys.Perm ys') : (pairs xs ys).Perm (pairs xs' ys') := by
  refine (hx.flatMap_right _).trans ?_
  show (pairs xs' ys).Perm _
  clear hx
  induction xs' with
  | nil => exact .refl _
  | cons x xs ih => rw [pairs_cons, pairs_cons]; exact (hy.map _).append ih
def lb : Kd → List (List Int)
  | .none => []
  | .one => [[]]
  | .name i => [[i]]
  | .either a b => gsort lexL (lb a ++ lb b)
  | .both a b => gsort lexL (pairs (lb a) (lb b))
def brn : Kd → Bool
  | .none => true
  | .one => false
  | .name _ => false
  | .either a b => brn a && brn b
  | .both a b => brn a || brn b
def ga : Kd → List (List Int)
  | .none => []
  | .one => [[]]
  | .name i => [[i]]
  | .either a b => ga a ++ ga b
  | .both a b => if (brn a || brn b) = true then [] else pairs (ga a) (ga b)
theorem lb_brn : ∀ k : Kd, brn k = true → lb k = []
  | .none, _ => rfl
  | .one, h => by cases h
  | .name _, h => by cases h
  | .either a b, h => by
    simp only [brn, Bool.and_eq_true] at h
    simp [lb, lb_brn a h.1, lb_brn b h.2, gsort]
  | .both a b, h => by
    simp only [brn, Bool.or_eq_true] at h
    rcases h with h | h
    · simp [lb, lb_brn a h, pairs, gsort]
    · simp [lb, lb_brn b h, pairs_nil, gsort]
theorem lb_sorted : ∀ k : Kd, gsort lexL (lb k) = lb k
  | .none => rfl
  | .one => rfl
  | .name _ => rfl
  | .either a b => rsort_idem _
  | .both a b => rsort_idem _
/-- how many bundles n leaves may have -/
def mostB (n : Nat) : Nat := [0, 1, 2, 3, 4, 6, 9, 12, 18].getD n 0
theorem mostB_tab : ∀ a ∈ List.range 9, ∀ b ∈ List.range 9, (a + b ≤ 8 ∧ 1 ≤ a ∧ 1 ≤ b) → mostB a + mostB b ≤ mostB (a + b) ∧ mostB a * mostB b ≤ mostB (a + b) := by decide
theorem mostB_two (a : Nat) (ha : a ≤ 8) (b : Nat) (hb : b ≤ 8) (h : a + b ≤ 8) (h1 : 1 ≤ a) (h2 : 1 ≤ b) : mostB a + mostB b ≤ mostB (a + b) ∧ mostB a * mostB b ≤ mostB (a + b) := mostB_tab a (List.mem_range.mpr (by omega)) b (List.mem_range.mpr (by omega)) ⟨h, h1, h2⟩
theorem mostB_le (a : Nat) (h : a ≤ 8) : mostB a ≤ 18 := (by decide : ∀ a, a < 9 → mostB a ≤ 18) a (by omega)
theorem lb_len : ∀ k : Kd, k.leaves ≤ 8 → (lb k).length ≤ mostB k.leaves
  | .none, _ => by decide
  | .one, _ => by decide
  | .name _, _ => Nat.le_refl 1
  | .either a b, h => by
    simp only [Kd.leaves] at h ⊢
    have pa := a.pos; have pb := b.pos
    have ha := lb_len a (by omega); have hb := lb_len b (by omega)
    have := (mostB_two a.leaves (by omega) b.leaves (by omega) h pa pb).1
    simp only [lb, rsort_len, List.length_append]; omega
  | .both a b, h => by
    simp only [Kd.leaves] at h ⊢
    have pa := a.pos; have pb := b.pos
    have ha := lb_len a (by omega); have hb := lb_len b (by omega)
    have := (mostB_two a.leaves (by omega) b.leaves (by omega) h pa pb).2
    simp only [lb, rsort_len, pairs_len]
    exact Nat.le_trans (Nat.mul_le_mul ha hb) this
/-- no more than eighteen bundles anywhere in it -/
def Fit : Kd → Prop
  | .either a b => Fit a ∧ Fit b ∧ (lb a).length + (lb b).length ≤ 18
  | .both a b => Fit a ∧ Fit b ∧ (lb a).length * (lb b).length ≤ 18
  | _ => True
theorem lb_18 : ∀ (k : Kd), Fit k → (lb k).length ≤ 18
  | .none, _ => by simp [lb]
  | .one, _ => by simp [lb]
  | .name _, _ => by simp [lb]
  | .either a b, h => by simp only [lb, rsort_len, List.length_append]; exact h.2.2
  | .both a b, h => by simp only [lb, rsort_len, pairs_len]; exact h.2.2
theorem fit8 : ∀ (k : Kd), k.leaves ≤ 8 → Fit k
  | .none, _ => trivial
  | .one, _ => trivial
  | .name _, _ => trivial
  | .either a b, h => by
    have h0 := Nat.le_trans (lb_len _ h) (mostB_le _ h)
    simp only [lb, rsort_len, List.length_append] at h0
    simp only [Kd.leaves] at h
    exact ⟨fit8 a (by omega), fit8 b (by omega), h0⟩
  | .both a b, h => by
    have h0 := Nat.le_trans (lb_len _ h) (mostB_le _ h)
    simp only [lb, rsort_len, pairs_len] at h0
    simp only [Kd.leaves] at h
    exact ⟨fit8 a (by omega), fit8 b (by omega), h0⟩
theorem pairs_mem {xs ys : List (List Int)} {r : List Int} (h : r ∈ pairs xs ys) : ∃ x ∈ xs, ∃ y ∈ ys, r = gsort ltI (x ++ y) := by
  unfold pairs row2 at h
  rw [List.mem_flatMap] at h
  obtain ⟨x, hx, h⟩ := h
  rw [List.mem_map] at h
  obtain ⟨y, hy, rfl⟩ := h
  exact ⟨x, hx, y, hy, rfl⟩
theorem lb_row : ∀ (k : Kd) (r : List Int), r ∈ lb k → r.length ≤ k.leaves
  | .none, r, h => by cases h
  | .one, r, h => by simp only [lb, List.mem_singleton] at h; subst h; simp [Kd.leaves]
  | .name _, r, h => by simp only [lb, List.mem_singleton] at h; subst h; simp [Kd.leaves]
  | .either a b, r, h => by
    have h' := (rsort_perm _).mem_iff.mp h
    simp only [Kd.leaves]
    rcases List.mem_append.mp h' with h' | h'
    · have := lb_row a r h'; omega
    · have := lb_row b r h'; omega
  | .both a b, r, h => by
    obtain ⟨x, hx, y, hy, rfl⟩ := pairs_mem ((rsort_perm _).mem_iff.mp h)
    have := lb_row a x hx; have := lb_row b y hy
    simp only [Kd.leaves, isort_len, List.length_append]; omega
def rowsD (rs : List (List Int)) : PyData := .list (rs.map rowD)
theorem sorted_rows {rs : List (List Int)} (h : rs.length < 64) : dSorted (rowsD rs) = some (rowsD (gsort lexL rs)) := sortD_rows h
theorem cat_rows (x y : List Int) (h : x.length + y.length ≤ big) : dAdd (rowD x) (rowD y) = some (rowD (x ++ y)) := by
  simp [dAdd, rowD, lfsI, h]
theorem sorted_row {x : List Int} (h : x.length < 64) : dSorted (rowD x) = some (.list ((gsort ltI x).map .int)) := sortD_ints h
theorem tup_ints (x : List Int) : dTuple (.list (x.map .int)) = some (rowD x) := by simp [dTuple, lfsI, rowD]
end KT
set_option Elab.async false
set_option linter.all false
set_option maxRecDepth 100000
namespace KT
open PySem
/-! ### paths -/
theorem lfs_append' : ∀ (xs ys : List PyData), lfs (xs ++ ys) = (lfs xs && lfs ys)
  | [], ys => by simp [lfs]
  | x :: xs, ys => by simp [lfs, lfs_append' xs ys, Bool.and_assoc]
def encP (p : List Int) : PyData := .tuple (p.map .int)
theorem lfs_ints : ∀ p : List Int, lfs (p.map .int) = true
  | [] => rfl
  | _ :: p => by simp [lfs, lf, lfs_ints p]
theorem lay_ints : ∀ p : List Int, PyData.canLayAll0 (p.map .int) = true
  | [] => rfl
  | _ :: p => by simp [PyData.canLayAll0, PyData.canLay0, lay_ints p]
theorem lay_path (p : List Int) : (encP p).canLay0 = true := by simp [encP, PyData.canLay0, lay_ints]
theorem lf_path (p : List Int) : lf (encP p) = true := by simp [encP, lf, lfs_ints]
theorem add_path (p : List Int) (i : Int) (h : p.length ≤ 90000) : dAdd (encP p) (.tuple [.int i]) = some (encP (p ++ [i])) := by
  have hb : p.length + 1 ≤ big := by unfold big; omega
  simp [dAdd, encP, lfs_ints, lfs, lf, hb]
end KT
set_option Elab.async false
set_option linter.all false
set_option maxRecDepth 100000
namespace KT
open PySem
/-! ### parts -/
def stepK : Kd → Int → Option Kd
  | .either a b, s => if s = 0 then some a else if s = 1 then some b else none
  | .both a b, s => if s = 0 then some a else if s = 1 then some b else none
  | _, _ => none
def partK : Kd → List Int → Option Kd
  | k, [] => some k
  | k, s :: p => (stepK k s).bind fun c => partK c p
theorem at0 (x : PyData) (xs : List PyData) : atP (x :: xs) 0 = some x := by simp [atP, ixP]
theorem at1 (x y : PyData) (xs : List PyData) : atP (x :: y :: xs) 1 = some y := by
  unfold atP ixP
  rw [if_pos (by decide), if_pos (by simp only [List.length_cons]; omega)]; rfl
theorem at2 (x y z : PyData) (xs : List PyData) : atP (x :: y :: z :: xs) 2 = some z := by
  unfold atP ixP
  rw [if_pos (by decide), if_pos (by simp only [List.length_cons]; omega)]; rfl
/-- the word of a kind -/
def hd : Kd → Str
  | .none => "none"
  | .one => "one"
  | .name _ => "name"
  | .either _ _ => "either"
  | .both _ _ => "both"
theorem enc_hd (k : Kd) : dIx (enc k) (.int 0) = some (.str (hd k)) := by cases k <;> exact at0 _ _
theorem hd_ok (k : Kd) : PyData.strOk (hd k) = true := by cases k <;> simp only [hd, ok_none, ok_one, ok_name, ok_either, ok_both]
def inn : Kd → Bool
  | .either _ _ => true
  | .both _ _ => true
  | _ => false
theorem enc_inn {k : Kd} (h : inn k = true) : ∃ a b, enc k = .tuple [.str (hd k), enc a, enc b] ∧ (∀ s, stepK k s = if s = 0 then some a else if s = 1 then some b else none) ∧ k.leaves = a.leaves + b.leaves := by
  cases k with
  | either a b => exact ⟨a, b, rfl, fun s => rfl, rfl⟩
  | both a b => exact ⟨a, b, rfl, fun s => rfl, rfl⟩
  | none => cases h
  | one => cases h
  | name _ => cases h
theorem step_leaf {k : Kd} (h : inn k = false) (s : Int) : stepK k s = none := by cases k <;> first | rfl | cases h
theorem step_ix {k c : Kd} {s : Int} (h : stepK k s = some c) : dIx (enc k) (.int (1 + s)) = some (enc c) ∧ inn k = true ∧ (s = 0 ∨ s = 1) ∧ c.leaves < k.leaves := by
  have hi : inn k = true := by
    cases hi : inn k with
    | true => rfl
    | false => rw [step_leaf hi] at h; cases h
  obtain ⟨a, b, e, hs, hl⟩ := enc_inn hi
  rw [hs] at h
  rw [e]
  have pa := a.pos
  have pb := b.pos
  split at h
  · rename_i h0
    cases h; subst h0
    exact ⟨at1 _ _ _, hi, .inl rfl, by omega⟩
  · split at h
    · rename_i h1
      cases h; subst h1
      exact ⟨at2 _ _ _ _, hi, .inr rfl, by omega⟩
    · cases h
theorem for_next {tg : FT} {body : FS} {d : PyData} {ds : List PyData} {ρ ρ1 ρ2 : Rho} (h1 : tg d ρ = some ρ1) (h2 : body ρ1 = some (.next ρ2)) : forGo tg body (d :: ds) ρ = forGo tg body ds ρ2 := by simp [forGo, h1, h2]
end KT
set_option Elab.async false
set_option linter.all false
set_option maxRecDepth 100000
namespace KT
open PySem
mutual
def plain : PyData → Bool
  | .int _ => true
  | .str s => PyData.strOk s
  | .tuple ds => plains ds
  | _ => false
def plains : List PyData → Bool
  | [] => true
  | d :: ds => plain d && plains ds
end
mutual
def wsz : PyData → Nat
  | .tuple ds => 1 + wszs ds
  | _ => 1
def wszs : List PyData → Nat
  | [] => 0
  | d :: ds => wsz d + wszs ds
end
theorem plains_app : ∀ xs ys : List PyData, plains (xs ++ ys) = (plains xs && plains ys)
  | [], _ => by simp [plains]
  | x :: xs, ys => by simp [plains, plains_app xs ys, Bool.and_assoc]
theorem wszs_app : ∀ xs ys : List PyData, wszs (xs ++ ys) = wszs xs + wszs ys
  | [], _ => by simp [wszs]
  | x :: xs, ys => by simp [wszs, wszs_app xs ys, Nat.add_assoc]
theorem wsz_pos : ∀ d : PyData, 1 ≤ wsz d
  | .tuple _ => by simp [wsz]
  | .none => by simp [wsz]
  | .bool _ => by simp [wsz]
  | .int _ => by simp [wsz]
  | .str _ => by simp [wsz]
  | .list _ => by simp [wsz]
  | .dict _ => by simp [wsz]
theorem wszs_len : ∀ xs : List PyData, xs.length ≤ wszs xs
  | [] => by simp [wszs]
  | x :: xs => by have := wsz_pos x; have := wszs_len xs; simp [wszs]; omega
mutual
theorem plain_lay : ∀ d : PyData, plain d = true → d.canLay0 = true
  | .int _, _ => rfl
  | .str s, h => by simpa [PyData.canLay0, plain] using h
  | .tuple ds, h => by simpa [PyData.canLay0] using plains_lay ds (by simpa [plain] using h)
  | .none, h => by simp [plain] at h
  | .bool _, h => by simp [plain] at h
  | .list _, h => by simp [plain] at h
  | .dict _, h => by simp [plain] at h
theorem plains_lay : ∀ ds : List PyData, plains ds = true → PyData.canLayAll0 ds = true
  | [], _ => rfl
  | d :: ds, h => by
    have h' : plain d = true ∧ plains ds = true := by simpa [plains] using h
    simp [PyData.canLayAll0, plain_lay d h'.1, plains_lay ds h'.2]
end
mutual
theorem plain_lf : ∀ d : PyData, plain d = true → lf d = true
  | .int _, _ => rfl
  | .str s, h => rfl
  | .tuple ds, h => by simpa [lf] using plains_lf ds (by simpa [plain] using h)
  | .none, h => by simp [plain] at h
  | .bool _, h => by simp [plain] at h
  | .list _, h => by simp [plain] at h
  | .dict _, h => by simp [plain] at h
theorem plains_lf : ∀ ds : List PyData, plains ds = true → lfs ds = true
  | [], _ => rfl
  | d :: ds, h => by
    have h' : plain d = true ∧ plains ds = true := by simpa [plains] using h
    simp [lfs, plain_lf d h'.1, plains_lf ds h'.2]
end
mutual
theorem plain_eqv : ∀ d : PyData, plain d = true → PyData.eqv d d = true
  | .int _, _ => by simp [PyData.eqv]
  | .str s, h => by simp [PyData.eqv]
  | .tuple ds, h => by simpa [PyData.eqv] using plains_eqv ds (by simpa [plain] using h)
  | .none, h => by simp [plain] at h
  | .bool _, h => by simp [plain] at h
  | .list _, h => by simp [plain] at h
  | .dict _, h => by simp [plain] at h
theorem plains_eqv : ∀ ds : List PyData, plains ds = true → PyData.eqvAll ds ds = true
  | [], _ => rfl
  | d :: ds, h => by
    have h' : plain d = true ∧ plains ds = true := by simpa [plains] using h
    simp [PyData.eqvAll, plain_eqv d h'.1, plains_eqv ds h'.2]
end
end KT
set_option Elab.async false
set_option linter.all false
set_option maxRecDepth 100000
namespace KT
open PySem
/-! ### turnings of kinds -/
def swapK : Kd → Option Kd
  | .either a b => some (.either b a)
  | .both a b => some (.both b a)
  | _ => none
def groupK : Kd → Option Kd
  | .either (.either a b) c => some (.either a (.either b c))
  | .both (.both a b) c => some (.both a (.both b c))
  | _ => none
def spreadK : Kd → Option Kd
  | .both a (.either b c) => some (.either (.both a b) (.both a c))
  | _ => none
def dropK : Kd → Option Kd
  | .either .none b => some b
  | .both .none _ => some .none
  | .both .one b => some b
  | _ => none
def hereK (w : Str) (k : Kd) : Option Kd :=
  if (w == "swap") = true then swapK k else if (w == "group") = true then groupK k else if (w == "spread") = true then spreadK k else if (w == "drop") = true then dropK k else none
def putK : Kd → List Int → Kd → Kd
  | _, [], x => x
  | .either a b, s :: p, x => if s = 0 then .either (putK a p x) b else .either a (putK b p x)
  | .both a b, s :: p, x => if s = 0 then .both (putK a p x) b else .both a (putK b p x)
  | k, _ :: _, _ => k
def turnK (k : Kd) (w : Str) (p : List Int) : Option Kd := (partK k p).bind fun x => (hereK w x).map (putK k p)
theorem v04 : (("group" : Str) == "swap") = false := by decide +kernel
theorem v05 : (("group" : Str) == "spread") = false := by decide +kernel
theorem v06 : (("group" : Str) == "drop") = false := by decide +kernel
theorem v07 : (("spread" : Str) == "swap") = false := by decide +kernel
theorem v08 : (("spread" : Str) == "group") = false := by decide +kernel
theorem v09 : (("spread" : Str) == "drop") = false := by decide +kernel
theorem v10 : (("drop" : Str) == "swap") = false := by decide +kernel
theorem v11 : (("drop" : Str) == "group") = false := by decide +kernel
theorem v12 : (("drop" : Str) == "spread") = false := by decide +kernel
theorem str_eq {w v : Str} (h : (w == v) = true) : w = v := by simpa using h
/-- five words: the four, and any other -/
theorem word5 (w : Str) : w = "swap" ∨ w = "group" ∨ w = "spread" ∨ w = "drop" ∨ ((w == "swap") = false ∧ (w == "group") = false ∧ (w == "spread") = false ∧ (w == "drop") = false) := by
  cases h1 : w == "swap" with
  | true => exact .inl (str_eq h1)
  | false =>
    cases h2 : w == "group" with
    | true => exact .inr (.inl (str_eq h2))
    | false =>
      cases h3 : w == "spread" with
      | true => exact .inr (.inr (.inl (str_eq h3)))
      | false =>
        cases h4 : w == "drop" with
        | true => exact .inr (.inr (.inr (.inl (str_eq h4))))
        | false => exact .inr (.inr (.inr (.inr ⟨rfl, rfl, rfl, rfl⟩)))
theorem here_swap (k : Kd) : hereK "swap" k = swapK k := by simp [hereK]
theorem here_group (k : Kd) : hereK "group" k = groupK k := by simp only [hereK, v04]; simp
theorem here_spread (k : Kd) : hereK "spread" k = spreadK k := by simp only [hereK, v07, v08]; simp
theorem here_drop (k : Kd) : hereK "drop" k = dropK k := by simp only [hereK, v10, v11, v12]; simp
theorem here_no (w : Str) (k : Kd) (h : (w == "swap") = false ∧ (w == "group") = false ∧ (w == "spread") = false ∧ (w == "drop") = false) : hereK w k = none := by simp [hereK, h.1, h.2.1, h.2.2.1, h.2.2.2]
theorem here_leaf (w : Str) (k : Kd) (h : inn k = false) : hereK w k = none := by
  unfold hereK
  cases k <;> first | (cases h; done) | (simp only [swapK, groupK, spreadK, dropK]; split <;> try rfl
                                         split <;> try rfl
                                         split <;> try rfl
                                         split <;> rfl)
theorem ret_noL (A : FE) (ρ ρ' : Rho) : sRet A ρ ≠ some (.next ρ') := by
  unfold sRet bindS
  split <;> first | (simp; done) | (dsimp only; split <;> simp)
/-- if c: return A -/
theorem if_retT {c A : FE} {T : FS} {ρ : Rho} {l : Nat} (h : c ρ = some (.ok l (.bool true))) : sSeq (sIf c (sRet A) sNext) T ρ = sRet A ρ := by
  have hn := ret_noL A ρ
  simp only [sSeq, sIf, h, bindS]
theorem if_retF {c A : FE} {T : FS} {ρ : Rho} {l : Nat} (h : c ρ = some (.ok l (.bool false))) : sSeq (sIf c (sRet A) sNext) T ρ = T ρ := by
  simp only [sSeq, sIf, h, bindS, sNext]
theorem andF {a b : FE} {ρ : Rho} {l : Nat} (h : a ρ = some (.ok l (.bool false))) : eAnd a b ρ = some (.ok 2 (.bool false)) := by simp only [eAnd, h, bindE]
theorem andT {a b : FE} {ρ : Rho} {l : Nat} (h : a ρ = some (.ok l (.bool true))) : eAnd a b ρ = b ρ := by simp only [eAnd, h, bindE]
theorem orT {a b : FE} {ρ : Rho} {l : Nat} (h : a ρ = some (.ok l (.bool true))) : eOr a b ρ = some (.ok 2 (.bool true)) := by simp only [eOr, h, bindE]
theorem orF {a b : FE} {ρ : Rho} {l : Nat} (h : a ρ = some (.ok l (.bool false))) : eOr a b ρ = b ρ := by simp only [eOr, h, bindE]
theorem eqT {a b : FE} {ρ : Rho} {l m : Nat} {x y : Str} (ha : a ρ = some (.ok l (.str x))) (hb : b ρ = some (.ok m (.str y))) {r : Bool} (h : (x == y) = r) : eEq a b ρ = some (.ok 2 (.bool r)) := by
  simp only [eEq, e2, ha, hb, bindE, eqSS, h, Option.map, if_true]
theorem ixT {a : FE} {ρ : Rho} {l : Nat} {x y : PyData} {i : Int} (ha : a ρ = some (.ok l x)) (h : dIx x (.int i) = some y) : eIx a (eC (.int i)) ρ = some (.ok (min l 2) y) := by
  simp only [eIx, e2, ha, eC, bindE, h, Option.map, Bool.false_eq_true, if_false]
theorem retT {a : FE} {ρ : Rho} {l : Nat} {x : PyData} (ha : a ρ = some (.ok l x)) (hl : lf x = true) : sRet a ρ = some (.ret x) := by
  simp only [sRet, ha, bindS, hl, Bool.true_or, if_true]
theorem tup3 {a b c : FE} {ρ : Rho} {l m n : Nat} {x y z : PyData} (ha : a ρ = some (.ok l x)) (hb : b ρ = some (.ok m y)) (hc : c ρ = some (.ok n z)) : eTup [a, b, c] ρ = some (.ok (min l (min m (min n 2))) (.tuple [x, y, z])) := by
  simp only [eTup, eArgs, ha, hb, hc, bindI]
def encT (w : Str) (p : List Int) : PyData := .tuple [.str w, encP p]
theorem at_0 (x : PyData) (xs : List PyData) : dIx (.tuple (x :: xs)) (.int 0) = some x := at0 x xs
theorem at_1 (x y : PyData) (xs : List PyData) : dIx (.tuple (x :: y :: xs)) (.int 1) = some y := at1 x y xs
theorem at_2 (x y z : PyData) (xs : List PyData) : dIx (.tuple (x :: y :: z :: xs)) (.int 2) = some z := at2 x y z xs
end KT
set_option Elab.async false
set_option linter.all false
set_option maxRecDepth 100000
namespace KT
open PySem
/-! ### a turning keeps the bundles -/
theorem lb_ris : ∀ (k : Kd) (r : List Int), r ∈ lb k → gsort ltI r = r
  | .none, r, h => by simp [lb] at h
  | .one, r, h => by simp only [lb, List.mem_singleton] at h; subst h; rfl
  | .name i, r, h => by simp only [lb, List.mem_singleton] at h; subst h; rfl
  | .either a b, r, h => by
    rw [lb, (rsort_perm _).mem_iff, List.mem_append] at h
    rcases h with h | h
    · exact lb_ris a r h
    · exact lb_ris b r h
  | .both a b, r, h => by
    rw [lb, (rsort_perm _).mem_iff] at h
    obtain ⟨x, _, y, _, rfl⟩ := pairs_mem h
    exact isort_eq (isort_perm _)
theorem pairs_app (xs xs' ys : List (List Int)) : pairs (xs ++ xs') ys = pairs xs ys ++ pairs xs' ys := by simp [pairs]
theorem pairs_right (y : List Int) (ys : List (List Int)) : ∀ xs : List (List Int), (pairs xs (y :: ys)).Perm (xs.map (fun x => gsort ltI (x ++ y)) ++ pairs xs ys)
  | [] => .refl _
  | x :: xs => by
    rw [pairs_cons, pairs_cons, List.map_cons, List.cons_append]
    refine List.Perm.cons _ ?_
    show (row2 x ys ++ pairs xs (y :: ys)).Perm _
    refine ((pairs_right y ys xs).append_left _).trans ?_
    rw [← List.append_assoc, ← List.append_assoc]
    exact List.perm_append_comm.append_right _
theorem pairs_appR (xs ys : List (List Int)) : ∀ zs : List (List Int), (pairs zs (xs ++ ys)).Perm (pairs zs xs ++ pairs zs ys)
  | [] => .refl _
  | z :: zs => by
    rw [pairs_cons, pairs_cons, pairs_cons]
    have e : row2 z (xs ++ ys) = row2 z xs ++ row2 z ys := by simp [row2]
    rw [e, List.append_assoc, List.append_assoc]
    refine List.Perm.append_left _ ?_
    refine ((pairs_appR xs ys zs).append_left _).trans ?_
    rw [← List.append_assoc, ← List.append_assoc]
    exact List.perm_append_comm.append_right _
theorem pairs_comm : ∀ xs ys : List (List Int), (pairs xs ys).Perm (pairs ys xs)
  | [], ys => by rw [pairs_nil]; exact .refl _
  | x :: xs, ys => by
    rw [pairs_cons]
    refine .trans ?_ (pairs_right x xs ys).symm
    have e : row2 x ys = ys.map (fun y => gsort ltI (y ++ x)) := List.map_congr_left fun y _ => isort_eq List.perm_append_comm
    rw [e]
    exact (pairs_comm xs ys).append_left _
theorem sort_sort (x y z : List Int) : gsort ltI (gsort ltI (x ++ y) ++ z) = gsort ltI (x ++ gsort ltI (y ++ z)) := by
  refine isort_eq ?_
  refine ((isort_perm (x ++ y)).append_right z).trans ?_
  rw [List.append_assoc]
  exact ((isort_perm (y ++ z)).symm.append_left x)
theorem pairs_assoc (ys zs : List (List Int)) : ∀ xs : List (List Int), pairs (pairs xs ys) zs = pairs xs (pairs ys zs)
  | [] => rfl
  | x :: xs => by
    rw [pairs_cons, pairs_cons, pairs_app, pairs_assoc ys zs xs]
    congr 1
    induction ys with
    | nil => rfl
    | cons y ys ih =>
      show row2 (gsort ltI (x ++ y)) zs ++ pairs (row2 x ys) zs = row2 x (row2 y zs ++ pairs ys zs)
      rw [ih]
      have e : row2 x (row2 y zs ++ pairs ys zs) = row2 x (row2 y zs) ++ row2 x (pairs ys zs) := by simp [row2]
      rw [e]
      congr 1
      simp only [row2, List.map_map]
      exact List.map_congr_left fun z _ => sort_sort x y z
theorem row2_nil (ys : List (List Int)) (h : ∀ r ∈ ys, gsort ltI r = r) : row2 [] ys = ys := by
  unfold row2
  conv => rhs; rw [← List.map_id ys]
  exact List.map_congr_left fun y hy => h y hy
theorem swap_lb {x y : Kd} (h : swapK x = some y) : lb y = lb x := by
  cases x <;> simp only [swapK, reduceCtorEq, Option.some.injEq] at h <;> subst h
  · exact rsort_eq List.perm_append_comm
  · exact rsort_eq (pairs_comm _ _)
theorem group_lb {x y : Kd} (h : groupK x = some y) : lb y = lb x := by
  unfold groupK at h
  split at h <;> simp only [reduceCtorEq, Option.some.injEq] at h <;> subst h
  · rename_i a b c
    refine rsort_eq ?_
    refine (((rsort_perm (lb b ++ lb c)).append_left (lb a)).trans ?_)
    rw [← List.append_assoc]
    exact (rsort_perm (lb a ++ lb b)).symm.append_right (lb c)
  · rename_i a b c
    refine rsort_eq ?_
    refine (pairs_perm (.refl _) (rsort_perm (pairs (lb b) (lb c)))).trans ?_
    rw [← pairs_assoc]
    exact pairs_perm (rsort_perm (pairs (lb a) (lb b))).symm (.refl _)
theorem spread_lb {x y : Kd} (h : spreadK x = some y) : lb y = lb x := by
  unfold spreadK at h
  split at h <;> simp only [reduceCtorEq, Option.some.injEq] at h
  subst h
  rename_i a b c
  refine rsort_eq ?_
  refine ((rsort_perm _).append (rsort_perm _)).trans ?_
  refine (pairs_appR (lb b) (lb c) (lb a)).symm.trans ?_
  exact pairs_perm (.refl _) (rsort_perm (lb b ++ lb c)).symm
theorem drop_lb {x y : Kd} (h : dropK x = some y) : lb y = lb x := by
  unfold dropK at h
  split at h <;> simp only [reduceCtorEq, Option.some.injEq] at h <;> subst h
  · exact (lb_sorted _).symm
  · rfl
  · rename_i b
    show lb b = gsort lexL (pairs [[]] (lb b))
    have e : pairs [[]] (lb b) = lb b := by
      show row2 [] (lb b) ++ [] = lb b
      rw [List.append_nil, row2_nil _ (lb_ris b)]
    rw [e, lb_sorted]
theorem here_lb {w : Str} {x y : Kd} (h : hereK w x = some y) : lb y = lb x := by
  unfold hereK at h
  split at h
  · exact swap_lb h
  · split at h
    · exact group_lb h
    · split at h
      · exact spread_lb h
      · split at h
        · exact drop_lb h
        · cases h
theorem put_lb : ∀ (p : List Int) (k x y : Kd), partK k p = some x → lb y = lb x → lb (putK k p y) = lb k
  | [], k, x, y, h, e => by cases h; simpa [putK] using e
  | s :: p, k, x, y, h, e => by
    simp only [partK] at h
    cases hs : stepK k s with
    | none => rw [hs] at h; cases h
    | some c =>
      rw [hs] at h
      have h' : partK c p = some x := h
      cases k with
      | either a b =>
        simp only [putK]
        by_cases z : s = 0
        · subst z
          have : c = a := by simpa [stepK] using hs.symm
          subst this
          rw [if_pos rfl, lb, put_lb p c x y h' e, lb]
        · have : c = b := by
            unfold stepK at hs
            simp only [z, if_false] at hs
            split at hs <;> simp at hs
            exact hs.symm
          subst this
          rw [if_neg z, lb, put_lb p c x y h' e, lb]
      | both a b =>
        simp only [putK]
        by_cases z : s = 0
        · subst z
          have : c = a := by simpa [stepK] using hs.symm
          subst this
          rw [if_pos rfl, lb, put_lb p c x y h' e, lb]
        · have : c = b := by
            unfold stepK at hs
            simp only [z, if_false] at hs
            split at hs <;> simp at hs
            exact hs.symm
          subst this
          rw [if_neg z, lb, put_lb p c x y h' e, lb]
      | none => simp [stepK] at hs
      | one => simp [stepK] at hs
      | name i => simp [stepK] at hs
theorem turn_lb {k k' : Kd} {w : Str} {p : List Int} (h : turnK k w p = some k') : lb k' = lb k := by
  unfold turnK at h
  cases hp : partK k p with
  | none => rw [hp] at h; cases h
  | some x =>
    rw [hp] at h
    cases hw : hereK w x with
    | none => simp [hw] at h
    | some y =>
      simp only [Option.bind_some, hw, Option.map_some, Option.some.injEq] at h
      rw [← h]
      exact put_lb p k x y hp (here_lb hw)
theorem brn_lb : ∀ k : Kd, brn k = false → lb k ≠ []
  | .none, h => by cases h
  | .one, _ => by simp [lb]
  | .name _, _ => by simp [lb]
  | .either a b, h => fun z => by
    have l := congrArg List.length z
    simp only [lb, rsort_len, List.length_append, List.length_nil] at l
    simp only [brn, Bool.and_eq_false_iff] at h
    rcases h with h | h
    · exact brn_lb a h (List.length_eq_zero_iff.mp (by omega))
    · exact brn_lb b h (List.length_eq_zero_iff.mp (by omega))
  | .both a b, h => fun z => by
    have l := congrArg List.length z
    simp only [lb, rsort_len, pairs_len, List.length_nil] at l
    simp only [brn, Bool.or_eq_false_iff] at h
    rcases Nat.mul_eq_zero.mp l with e | e
    · exact brn_lb a h.1 (List.length_eq_zero_iff.mp e)
    · exact brn_lb b h.2 (List.length_eq_zero_iff.mp e)
end KT
set_option Elab.async false
set_option linter.all false
set_option maxRecDepth 100000
namespace KT
open PySem
/-! ### how far kinds grow: terms and leaves of what is fully spread -/
def nE : Kd → Nat
  | .either a b => nE a + nE b
  | .both a b => nE a * nE b
  | _ => 1
def sE : Kd → Nat
  | .either a b => sE a + sE b
  | .both a b => sE a * nE b + sE b * nE a
  | _ => 1
theorem nE_pos : ∀ k : Kd, 1 ≤ nE k
  | .none => Nat.le_refl _
  | .one => Nat.le_refl _
  | .name _ => Nat.le_refl _
  | .either a b => by have := nE_pos a; simp only [nE]; omega
  | .both a b => Nat.mul_le_mul (nE_pos a) (nE_pos b)
theorem sE_leaves : ∀ k : Kd, k.leaves ≤ sE k
  | .none => Nat.le_refl _
  | .one => Nat.le_refl _
  | .name _ => Nat.le_refl _
  | .either a b => by have := sE_leaves a; have := sE_leaves b; simp only [sE, Kd.leaves]; omega
  | .both a b => by
    have h1 := sE_leaves a; have h2 := sE_leaves b
    have h3 : sE a * 1 ≤ sE a * nE b := Nat.mul_le_mul_left _ (nE_pos b)
    have h4 : sE b * 1 ≤ sE b * nE a := Nat.mul_le_mul_left _ (nE_pos a)
    simp only [sE, Kd.leaves]
    omega
theorem here_E (w : Str) (x y : Kd) (h : hereK w x = some y) : nE y ≤ nE x ∧ sE y ≤ sE x := by
  rcases word5 w with rfl | rfl | rfl | rfl | hno
  · rw [here_swap] at h
    cases x <;> simp [swapK] at h <;> subst h <;> simp only [nE, sE]
    · omega
    · exact ⟨Nat.le_of_eq (Nat.mul_comm _ _), by omega⟩
  · rw [here_group] at h
    unfold groupK at h
    split at h <;> cases h <;> simp only [nE, sE]
    · omega
    · simp only [Nat.mul_add, Nat.add_mul, Nat.mul_assoc, Nat.mul_comm, Nat.mul_left_comm]
      omega
  · rw [here_spread] at h
    unfold spreadK at h
    split at h <;> cases h
    simp only [nE, sE, Nat.mul_add, Nat.add_mul, Nat.mul_assoc, Nat.mul_comm, Nat.mul_left_comm]
    omega
  · rw [here_drop] at h
    unfold dropK at h
    split at h <;> cases h <;> simp only [nE, sE]
    · omega
    · have := nE_pos (by assumption)
      omega
    · omega
  · rw [here_no w x hno] at h; cases h
theorem put_E : ∀ (p : List Int) (k x y : Kd), partK k p = some x → nE y ≤ nE x → sE y ≤ sE x → nE (putK k p y) ≤ nE k ∧ sE (putK k p y) ≤ sE k
  | [], k, x, y, h, h1, h2 => by simp only [partK] at h; cases h; simp only [putK]; exact ⟨h1, h2⟩
  | s :: p, k, x, y, h, h1, h2 => by
    simp only [partK] at h
    cases k with
    | either a b =>
      simp only [stepK] at h
      simp only [putK]
      by_cases h0 : s = 0
      · rw [if_pos h0] at h ⊢
        have := put_E p a x y h h1 h2
        simp only [nE, sE]; omega
      · rw [if_neg h0] at h ⊢
        split at h
        · have := put_E p b x y h h1 h2
          simp only [nE, sE]; omega
        · cases h
    | both a b =>
      simp only [stepK] at h
      simp only [putK]
      by_cases h0 : s = 0
      · rw [if_pos h0] at h ⊢
        have q := put_E p a x y h h1 h2
        simp only [nE, sE]
        exact ⟨Nat.mul_le_mul_right _ q.1, Nat.add_le_add (Nat.mul_le_mul_right _ q.2) (Nat.mul_le_mul_left _ q.1)⟩
      · rw [if_neg h0] at h ⊢
        split at h
        · have q := put_E p b x y h h1 h2
          simp only [nE, sE]
          exact ⟨Nat.mul_le_mul_left _ q.1, Nat.add_le_add (Nat.mul_le_mul_left _ q.1) (Nat.mul_le_mul_right _ q.2)⟩
        · cases h
    | none => cases h
    | one => cases h
    | name _ => cases h
theorem turn_split {k k' : Kd} {w : Str} {p : List Int} (h : turnK k w p = some k') : ∃ x y, partK k p = some x ∧ hereK w x = some y ∧ k' = putK k p y := by
  unfold turnK at h
  cases e : partK k p with
  | none => rw [e] at h; cases h
  | some x =>
    rw [e] at h
    simp only [Option.bind_some] at h
    cases ey : hereK w x with
    | none => rw [ey] at h; cases h
    | some y => rw [ey] at h; cases h; exact ⟨x, y, rfl, ey, rfl⟩
theorem turn_E {k k' : Kd} {w : Str} {p : List Int} (h : turnK k w p = some k') : nE k' ≤ nE k ∧ sE k' ≤ sE k := by
  obtain ⟨x, y, h1, h2, rfl⟩ := turn_split h
  have := here_E w x y h2
  exact put_E p k x y h1 this.1 this.2
def TN : Nat → Nat
  | 1 => 1 | 2 => 2 | 3 => 3 | 4 => 4 | 5 => 6 | 6 => 9 | 7 => 12 | _ => 0
def TS : Nat → Nat
  | 1 => 1 | 2 => 2 | 3 => 4 | 4 => 8 | 5 => 14 | 6 => 24 | 7 => 40 | _ => 0
theorem tab : ∀ i : Fin 8, ∀ j : Fin 8, 1 ≤ i.val → 1 ≤ j.val → i.val + j.val ≤ 7 → TN i.val + TN j.val ≤ TN (i.val + j.val) ∧ TN i.val * TN j.val ≤ TN (i.val + j.val) ∧ TS i.val + TS j.val ≤ TS (i.val + j.val) ∧ TS i.val * TN j.val + TS j.val * TN i.val ≤ TS (i.val + j.val) := by decide
theorem kd_E : ∀ k : Kd, k.leaves ≤ 7 → nE k ≤ TN k.leaves ∧ sE k ≤ TS k.leaves
  | .none, _ => ⟨Nat.le_refl _, Nat.le_refl _⟩
  | .one, _ => ⟨Nat.le_refl _, Nat.le_refl _⟩
  | .name _, _ => ⟨Nat.le_refl _, Nat.le_refl _⟩
  | .either a b, h => by
    have pa := a.pos; have pb := b.pos
    simp only [Kd.leaves] at h ⊢
    obtain ⟨a1, a2⟩ := kd_E a (by omega)
    obtain ⟨b1, b2⟩ := kd_E b (by omega)
    have t := tab ⟨a.leaves, by omega⟩ ⟨b.leaves, by omega⟩ pa pb h
    simp only at t
    simp only [nE, sE]
    omega
  | .both a b, h => by
    have pa := a.pos; have pb := b.pos
    simp only [Kd.leaves] at h ⊢
    obtain ⟨a1, a2⟩ := kd_E a (by omega)
    obtain ⟨b1, b2⟩ := kd_E b (by omega)
    have t := tab ⟨a.leaves, by omega⟩ ⟨b.leaves, by omega⟩ pa pb h
    simp only at t
    simp only [nE, sE]
    have m1 := Nat.mul_le_mul a1 b1
    have m2 := Nat.mul_le_mul a2 b1
    have m3 := Nat.mul_le_mul b2 a1
    exact ⟨Nat.le_trans m1 t.2.1, Nat.le_trans (Nat.add_le_add m2 m3) t.2.2.2⟩
theorem ts_max : ∀ i, i ≤ 7 → TS i ≤ 40 := by
  intro i h
  have : i = 0 ∨ i = 1 ∨ i = 2 ∨ i = 3 ∨ i = 4 ∨ i = 5 ∨ i = 6 ∨ i = 7 := by omega
  rcases this with rfl | rfl | rfl | rfl | rfl | rfl | rfl | rfl <;> decide
end KT
set_option Elab.async false
set_option linter.all false
set_option maxRecDepth 100000
namespace KT
open PySem
/-! ### the plain kind of rows -/
def bk : List Int → Kd
  | [] => .one
  | [n] => .name n
  | n :: m :: ns => .both (.name n) (bk (m :: ns))
def pk : List (List Int) → Kd
  | [] => .none
  | [r] => bk r
  | r :: s :: rs => .either (bk r) (pk (s :: rs))
def Ris (r : List Int) : Prop := r.Pairwise intOrd.kle
theorem ris_sort {r : List Int} (h : Ris r) : gsort ltI r = r := (gsort_uniq (O := intOrd) (List.Perm.refl r) h).symm
theorem lb_bk : ∀ r : List Int, Ris r → lb (bk r) = [r]
  | [], _ => rfl
  | [n], _ => rfl
  | n :: m :: ns, h => by
    have h' : Ris (m :: ns) := List.Pairwise.of_cons h
    have e : gsort ltI ([n] ++ (m :: ns)) = n :: m :: ns := ris_sort h
    show gsort lexL (pairs [[n]] (lb (bk (m :: ns)))) = _
    rw [lb_bk (m :: ns) h']
    show gsort lexL [gsort ltI ([n] ++ (m :: ns))] = _
    rw [e]; rfl
theorem lb_pk : ∀ rs : List (List Int), (∀ r ∈ rs, Ris r) → lb (pk rs) = gsort lexL rs
  | [], _ => rfl
  | [r], h => by show lb (bk r) = _; rw [lb_bk r (h r (List.mem_cons_self ..))]; rfl
  | r :: s :: rs, h => by
    show gsort lexL (lb (bk r) ++ lb (pk (s :: rs))) = _
    rw [lb_bk r (h r (List.mem_cons_self ..)), lb_pk (s :: rs) fun x hx => h x (List.mem_cons_of_mem _ hx)]
    exact rsort_eq ((rsort_perm (s :: rs)).cons r)
/-! ### chains, as data -/
def wrap (w : Str) (m k : PyData) : PyData := .tuple [.str w, k, m]
def chD (w : Str) : List PyData → PyData
  | [] => .none
  | [x] => x
  | x :: y :: r => .tuple [.str w, x, chD w (y :: r)]
theorem chD_foldr (w : Str) : ∀ (xs : List PyData) (l : PyData), chD w (xs ++ [l]) = xs.foldr (fun k m => wrap w m k) l
  | [], _ => rfl
  | [x], l => rfl
  | x :: y :: r, l => by
    show PyData.tuple [.str w, x, chD w ((y :: r) ++ [l])] = _
    rw [chD_foldr w (y :: r) l]; rfl
theorem chD_foldl (w : Str) (xs : List PyData) (l : PyData) : chD w (xs.reverse ++ [l]) = xs.foldl (wrap w) l := by
  rw [chD_foldr, List.foldr_reverse]
def nameD (n : Int) : PyData := .tuple [.str "name", .int n]
theorem enc_bk : ∀ r : List Int, r ≠ [] → enc (bk r) = chD "both" (r.map nameD)
  | [], h => absurd rfl h
  | [n], _ => rfl
  | n :: m :: ns, _ => by
    show PyData.tuple [.str "both", enc (.name n), enc (bk (m :: ns))] = _
    rw [enc_bk (m :: ns) (by simp)]; rfl
def kindD (r : List Int) : PyData := enc (bk r)
theorem enc_pk : ∀ rs : List (List Int), rs ≠ [] → enc (pk rs) = chD "either" (rs.map kindD)
  | [], h => absurd rfl h
  | [r], _ => rfl
  | r :: s :: rs, _ => by
    show PyData.tuple [.str "either", enc (bk r), enc (pk (s :: rs))] = _
    rw [enc_pk (s :: rs) (by simp)]; rfl
theorem lfs_kinds : ∀ rs : List (List Int), lfs (rs.map kindD) = true
  | [] => rfl
  | r :: rs => by simp [lfs, kindD, enc_lf]; simpa [kindD] using lfs_kinds rs
theorem wrap_lf (w : Str) {m k : PyData} (hm : lf m = true) (hk : lf k = true) : lf (wrap w m k) = true := by simp [wrap, lf, lfs, hm, hk]
end KT
set_option Elab.async false
set_option linter.all false
set_option maxRecDepth 100000
namespace KT
open PySem
/-! ### rows of turnings -/
abbrev TRow := List (Str × List Int)
def goK : Kd → TRow → Option Kd
  | k, [] => some k
  | k, t :: r => (turnK k t.1 t.2).bind fun c => goK c r
def pre (p : List Int) (r : TRow) : TRow := r.map fun t => (t.1, p ++ t.2)
def encW (p : List Int) (r : TRow) : List PyData := r.map fun t => encT t.1 (p ++ t.2)
theorem encW_pre (p q : List Int) (r : TRow) : encW p (pre q r) = encW (p ++ q) r := by
  simp only [encW, pre, List.map_map]
  exact List.map_congr_left fun t _ => by simp [List.append_assoc]
theorem encW_app (p : List Int) (r s : TRow) : encW p (r ++ s) = encW p r ++ encW p s := by simp [encW]
theorem encW_len (p : List Int) (r : TRow) : (encW p r).length = r.length := by simp [encW]
theorem pre_len (p : List Int) (r : TRow) : (pre p r).length = r.length := by simp [pre]
theorem go_app : ∀ (r q : TRow) (k : Kd), goK k (r ++ q) = (goK k r).bind fun c => goK c q
  | [], q, k => rfl
  | t :: r, q, k => by
    simp only [List.cons_append, goK]
    cases turnK k t.1 t.2 with
    | none => rfl
    | some c => exact go_app r q c
theorem go_seq {r q : TRow} {k c d : Kd} (h : goK k r = some c) (h2 : goK c q = some d) : goK k (r ++ q) = some d := by rw [go_app, h]; exact h2
theorem go_one {w : Str} {p : List Int} {k c : Kd} (h : turnK k w p = some c) : goK k [(w, p)] = some c := by simp [goK, h]
theorem turn_nil {w : Str} {k c : Kd} (h : hereK w k = some c) : turnK k w [] = some c := by simp [turnK, partK, h, putK]
theorem go_here {w : Str} {k c : Kd} (h : hereK w k = some c) : goK k [(w, [])] = some c := go_one (turn_nil h)
theorem go_lb : ∀ (r : TRow) (k c : Kd), goK k r = some c → lb c = lb k
  | [], k, c, h => by cases h; rfl
  | t :: r, k, c, h => by
    simp only [goK] at h
    cases e : turnK k t.1 t.2 with
    | none => rw [e] at h; cases h
    | some d => rw [e] at h; exact (go_lb r d c h).trans (turn_lb e)
theorem go_E : ∀ (r : TRow) (k c : Kd), goK k r = some c → sE c ≤ sE k
  | [], k, c, h => by cases h; exact Nat.le_refl _
  | t :: r, k, c, h => by
    simp only [goK] at h
    cases e : turnK k t.1 t.2 with
    | none => rw [e] at h; cases h
    | some d => rw [e] at h; exact Nat.le_trans (go_E r d c h) (turn_E e).2
/-- either or both -/
def opK : Bool → Kd → Kd → Kd
  | true, a, b => .either a b
  | false, a, b => .both a b
def opU : Bool → Kd
  | true => .none
  | false => .one
theorem turn_0 (e : Bool) (a b : Kd) (w : Str) (p : List Int) : turnK (opK e a b) w (0 :: p) = (turnK a w p).map (opK e · b) := by
  cases e <;> simp only [turnK, opK, partK, stepK, if_true, Option.bind_some, putK] <;> cases partK a p <;> simp [Function.comp_def]
theorem turn_1 (e : Bool) (a b : Kd) (w : Str) (p : List Int) : turnK (opK e a b) w (1 :: p) = (turnK b w p).map (opK e a ·) := by
  cases e <;> simp only [turnK, opK, partK, stepK, (by decide : ¬ (1 : Int) = 0), if_false, if_true, Option.bind_some, putK] <;> cases partK b p <;> simp [Function.comp_def]
theorem go_0 (e : Bool) (b : Kd) : ∀ (r : TRow) (a : Kd), goK (opK e a b) (pre [0] r) = (goK a r).map (opK e · b)
  | [], a => rfl
  | t :: r, a => by
    show (turnK (opK e a b) t.1 (0 :: t.2)).bind (fun c => goK c (pre [0] r)) = ((turnK a t.1 t.2).bind fun c => goK c r).map (opK e · b)
    rw [turn_0]
    cases turnK a t.1 t.2 with
    | none => rfl
    | some c => exact go_0 e b r c
theorem go_1 (e : Bool) (a : Kd) : ∀ (r : TRow) (b : Kd), goK (opK e a b) (pre [1] r) = (goK b r).map (opK e a ·)
  | [], b => rfl
  | t :: r, b => by
    show (turnK (opK e a b) t.1 (1 :: t.2)).bind (fun c => goK c (pre [1] r)) = ((turnK b t.1 t.2).bind fun c => goK c r).map (opK e a ·)
    rw [turn_1]
    cases turnK b t.1 t.2 with
    | none => rfl
    | some c => exact go_1 e a r c
theorem go_L (e : Bool) {a a' b : Kd} {r : TRow} (h : goK a r = some a') : goK (opK e a b) (pre [0] r) = some (opK e a' b) := by rw [go_0, h]; rfl
theorem go_R (e : Bool) {a b b' : Kd} {r : TRow} (h : goK b r = some b') : goK (opK e a b) (pre [1] r) = some (opK e a b') := by rw [go_1, h]; rfl
theorem go_swap (e : Bool) (a b : Kd) : hereK "swap" (opK e a b) = some (opK e b a) := by rw [here_swap]; cases e <;> rfl
theorem go_group (e : Bool) (a b c : Kd) : hereK "group" (opK e (opK e a b) c) = some (opK e a (opK e b c)) := by rw [here_group]; cases e <;> rfl
theorem go_drop (e : Bool) (b : Kd) : hereK "drop" (opK e (opU e) b) = some b := by rw [here_drop]; cases e <;> rfl
/-! ### lines -/
def nest {α : Type} (e : Bool) (f : α → Kd) : List α → Kd
  | [] => opU e
  | [x] => f x
  | x :: y :: r => opK e (f x) (nest e f (y :: r))
theorem nest_cons {α : Type} (e : Bool) (f : α → Kd) (x : α) {l : List α} (h : l ≠ []) : nest e f (x :: l) = opK e (f x) (nest e f l) := by
  cases l with
  | nil => exact absurd rfl h
  | cons y r => rfl
theorem bk_nest : ∀ r : List Int, bk r = nest false .name r
  | [] => rfl
  | [n] => rfl
  | n :: m :: ns => by rw [bk, bk_nest (m :: ns)]; rfl
theorem pk_nest : ∀ r : List (List Int), pk r = nest true bk r
  | [] => rfl
  | [n] => rfl
  | n :: m :: ns => by rw [pk, pk_nest (m :: ns)]; rfl
/-! ### trees -/
inductive Tr where
  | nil
  | bun (l : List Int)
  | nod (a b : Tr)
def encTr : Tr → PyData
  | .nil => .list []
  | .bun l => rowD l
  | .nod a b => .list [encTr a, encTr b]
def trK : Tr → Kd
  | .nil => .none
  | .bun l => bk l
  | .nod a b => .either (trK a) (trK b)
/-- no part of it is none, its bundles rise -/
def Full : Tr → Prop
  | .nil => False
  | .bun l => Ris l
  | .nod a b => Full a ∧ Full b
def nb : Tr → Nat
  | .nil => 0
  | .bun _ => 1
  | .nod a b => nb a + nb b
theorem nb_pos : ∀ T : Tr, Full T → 1 ≤ nb T
  | .nil, h => h.elim
  | .bun _, _ => Nat.le_refl _
  | .nod a b, h => by have := nb_pos a h.1; simp only [nb]; omega
theorem nb_lb : ∀ T : Tr, Full T → (lb (trK T)).length = nb T
  | .nil, h => h.elim
  | .bun l, h => by simp only [trK, lb_bk l h]; rfl
  | .nod a b, h => by simp only [trK, lb, rsort_len, List.length_append, nb_lb a h.1, nb_lb b h.2, nb]
theorem tr_lay : ∀ T : Tr, (encTr T).canLay0 = true
  | .nil => rfl
  | .bun l => lay_path l
  | .nod a b => by simp [encTr, PyData.canLay0, PyData.canLayAll0, tr_lay a, tr_lay b]
theorem len_bk : ∀ l : List Int, l.length ≤ (bk l).leaves
  | [] => Nat.zero_le _
  | [n] => Nat.le_refl _
  | n :: m :: ns => by have := len_bk (m :: ns); simp only [bk, Kd.leaves, List.length_cons] at *; omega
end KT
set_option Elab.async false
set_option linter.all false
set_option maxRecDepth 100000
namespace KT
open PySem
/-! ### merged -/
theorem encW_cons (p q : List Int) (w : Str) (r : TRow) : encW p ((w, q) :: r) = encT w (p ++ q) :: encW p r := rfl
theorem lt_big {n : Nat} (h : n ≤ 50000) : n < big := Nat.lt_of_le_of_lt h (by decide)
theorem wf_le {n : Nat} (h : n ≤ 90000) : n ≤ wFuel := Nat.le_trans h (by decide)
def mgL : FE := (eLtG (eIx (eVar 6) (eC (.int 0))) (eIx (eVar 5) (eC (.int 0))))
def mgC : FE := (eOr (eGt (eLen (eVar 5)) (eC (.int 1))) mgL)
def mgS : FS := (sSeq (sAppendT 3 (eTup [(eC (.str "swap")), (eVar 7)])) (sSeq (sMove 8 5) (sSeq (sMove 5 6) (sMove 6 8))))
def mgG : FS := (sSeq (sAppendT 3 (eTup [(eC (.str "group")), (eVar 7)])) (sSeq (sAppPop 4 5) (sSet 7 (eAdd (eVar 7) (eTup [(eC (.int 1))])))))
def mgB : FS := (sIf mgL mgS mgG)
def mgE : FS := (sSeq (sWhile mgC mgB) (sRetL 3 (eAdd (eAdd (eVar 4) (eVar 5)) (eVar 6))))
def mgR (s0 s1 s2 : Option Slot) (ds D L R : List PyData) (h : PyData) (x8 : Option Slot) : Rho := [s0, s1, s2, some (.lent ds), some (.own D), some (.own L), some (.own R), some (.loc h), x8]
section
variable (s0 s1 s2 x8 : Option Slot) (ds D L R : List PyData) (a b h : PyData)
theorem lt_ev {t : Bool} (hl : dLtG b a = some (.bool t)) : mgL (mgR s0 s1 s2 ds D (a :: L) (b :: R) h x8) = some (.ok 2 (.bool t)) := by
  have e1 : (eIx (eVar 6) (eC (.int 0))) (mgR s0 s1 s2 ds D (a :: L) (b :: R) h x8) = some (.ok 1 b) := by simp [eIx, e2, eVar, eC, mgR, bindE, dIx, atP, ixP]
  have e2' : (eIx (eVar 5) (eC (.int 0))) (mgR s0 s1 s2 ds D (a :: L) (b :: R) h x8) = some (.ok 1 a) := by simp [eIx, e2, eVar, eC, mgR, bindE, dIx, atP, ixP]
  unfold mgL eLtG
  unfold e2
  rw [e1, e2']
  simp only [bindE, hl]
  rfl
theorem gt_ev : (eGt (eLen (eVar 5)) (eC (.int 1))) (mgR s0 s1 s2 ds D (a :: L) R h x8) = some (.ok 2 (.bool (!L.isEmpty))) := by
  simp only [eGt, e2, eLen, e1, eVar, eC, mgR, bindE, dLen, List.getElem?_cons_succ, List.getElem?_cons_zero, Option.map_some, dGt, List.length_cons, if_true]
  cases L <;> simp <;> omega
theorem swap_ev (hl : lf h = true) (hb : ds.length < big) : mgS (mgR s0 s1 s2 ds D L R h x8) = some (.next (mgR s0 s1 s2 (ds ++ [.tuple [.str "swap", h]]) D R L h none)) := by
  simp [mgS, sSeq, sAppendT, mgR, eTup, eArgs, eC, eVar, bindI, bindS, lf, lfs, hl, hb, sMove]
theorem group_ev (p : List Int) (hp : p.length ≤ 90000) (hb : ds.length < big) (hD : D.length < big) (ha : lf a = true) :
    mgG (mgR s0 s1 s2 ds D (a :: L) R (encP p) x8) = some (.next (mgR s0 s1 s2 (ds ++ [encT "group" p]) (D ++ [a]) L R (encP (p ++ [1])) x8)) := by
  have e1 := add_path p 1 hp
  have l1 := lf_path p
  have l2 := lf_path (p ++ [1])
  simp [mgG, sSeq, sAppendT, mgR, eTup, eArgs, eC, eVar, bindI, bindS, lf, lfs, l1, l2, hb, sAppPop, hD, ha, sSet, eAdd, e2, bindE, e1, asg, encT]
end
structure MH {α : Type} (d : α → PyData) (lt : α → α → Bool) (P : α → Prop) (S : α → α → Prop) : Prop where
  hlf : ∀ x, lf (d x) = true
  hlt : ∀ x y, P x → P y → dLtG (d x) (d y) = some (.bool (lt x y))
  asym : ∀ x y, P x → P y → lt x y = true → lt y x = false
  hS : ∀ x y, P x → P y → lt y x = false → S x y
  tr : ∀ x y z, S x y → S y z → S x z
section
variable {α : Type} (e : Bool) {d : α → PyData} (κ : α → Kd) {lt : α → α → Bool} {P : α → Prop} {S : α → α → Prop}
theorem lfs_d (M : MH d lt P S) : ∀ l : List α, lfs (l.map d) = true
  | [] => rfl
  | x :: l => by simp [lfs, M.hlf x, lfs_d M l]
/-- what the loop does -/
def MgOk (d : α → PyData) (S : α → α → Prop) (N w : Nat) (l r : List α) : Prop :=
  ∀ (s0 s1 s2 x8 : Option Slot) (ds D : List PyData) (p : List Int) (fuel : Nat), 2 * N + w + 1 ≤ fuel → ds.length + 2 * N + w < big → p.length + N ≤ 90000 → D.length + N ≤ 50000 → lfs D = true →
    ∃ (row : TRow) (res : List α) (D' L' R' : List PyData) (h' : PyData) (x8' : Option Slot),
      whileGo mgC mgB fuel (mgR s0 s1 s2 ds D (l.map d) (r.map d) (encP p) x8) = some (.next (mgR s0 s1 s2 (ds ++ encW p row) D' L' R' h' x8')) ∧ D' ++ L' ++ R' = D ++ res.map d ∧ lfs D' = true ∧ lfs L' = true ∧ lfs R' = true ∧
      goK (opK e (nest e κ l) (nest e κ r)) row = some (nest e κ res) ∧ res.Perm (l ++ r) ∧ (l.Pairwise S → r.Pairwise S → res.Pairwise S) ∧ row.length ≤ 2 * N + w
theorem while_stop {c : FE} {b : FS} {ρ : Rho} {f l : Nat} (h : c ρ = some (.ok l (.bool false))) : whileGo c b (f + 1) ρ = some (.next ρ) := by simp only [whileGo, h, bindS]
theorem while_on {c : FE} {b : FS} {ρ ρ' : Rho} {f l : Nat} (h : c ρ = some (.ok l (.bool true))) (hb : b ρ = some (.next ρ')) : whileGo c b (f + 1) ρ = whileGo c b f ρ' := by simp only [whileGo, h, bindS, hb]
theorem if_T {c : FE} {a b : FS} {ρ : Rho} {l : Nat} (h : c ρ = some (.ok l (.bool true))) : sIf c a b ρ = a ρ := by simp only [sIf, h, bindS]
theorem if_F {c : FE} {a b : FS} {ρ : Rho} {l : Nat} (h : c ρ = some (.ok l (.bool false))) : sIf c a b ρ = b ρ := by simp only [sIf, h, bindS]
theorem mg_A (M : MH d lt P S) (N : Nat) (ih : ∀ l r : List α, l.length + r.length ≤ N → l ≠ [] → r ≠ [] → (∀ x ∈ l, P x) → (∀ x ∈ r, P x) → MgOk e κ d S N 1 l r)
    (x y : α) (l r : List α) (hN : (x :: l).length + (y :: r).length ≤ N + 1) (hl : ∀ z ∈ x :: l, P z) (hr : ∀ z ∈ y :: r, P z) (hxy : lt y x = false) : MgOk e κ d S (N + 1) 0 (x :: l) (y :: r) := by
  intro s0 s1 s2 x8 ds D p fuel hf hds hp hD hDl
  obtain ⟨f, rfl⟩ : ∃ f, fuel = f + 1 := ⟨fuel - 1, by omega⟩
  have px : P x := hl x (List.mem_cons_self ..)
  have py : P y := hr y (List.mem_cons_self ..)
  have sxy : S x y := M.hS x y px py hxy
  have hlt := M.hlt y x py px
  rw [hxy] at hlt
  have c1 := lt_ev s0 s1 s2 x8 ds D (l.map d) (r.map d) (d x) (d y) (encP p) hlt
  cases l with
  | nil =>
    refine ⟨[], x :: y :: r, D, [d x], (y :: r).map d, encP p, x8, ?_, by simp, hDl, by simp [lfs, M.hlf x], lfs_d M _, rfl, .refl _, fun h1 h2 => ?_, Nat.zero_le _⟩
    · rw [show ds ++ encW p [] = ds by simp [encW]]
      refine while_stop (l := 2) ?_
      have c2 := gt_ev s0 s1 s2 x8 ds D [] ((y :: r).map d) (d x) (encP p)
      exact (orF c2).trans c1
    · exact List.pairwise_cons.mpr ⟨fun z hz => by
        rcases List.mem_cons.mp hz with rfl | hz
        · exact sxy
        · exact M.tr _ _ _ sxy ((List.pairwise_cons.mp h2).1 z hz), h2⟩
  | cons x2 l2 =>
    have hb : ds.length < big := by omega
    have g := group_ev s0 s1 s2 x8 ds D ((x2 :: l2).map d) ((y :: r).map d) (d x) p (by omega) hb (lt_big (by omega)) (M.hlf x)
    obtain ⟨row, res, D', L', R', h', x8', e1, e2, l1, l2', l3, e3, e4, e5, e6⟩ := ih (x2 :: l2) (y :: r) (by simp only [List.length_cons] at hN ⊢; omega) (by simp) (by simp) (fun z hz => hl z (List.mem_cons_of_mem _ hz)) hr
      s0 s1 s2 x8 (ds ++ [encT "group" p]) (D ++ [d x]) (p ++ [1]) f (by omega) (by simp only [List.length_append, List.length_singleton]; omega) (by simp only [List.length_append, List.length_singleton]; omega) (by simp only [List.length_append, List.length_singleton]; omega) (by rw [lfs_append', hDl]; simp [lfs, M.hlf x])
    refine ⟨("group", []) :: pre [1] row, x :: res, D', L', R', h', x8', ?_, by rw [e2]; simp, l1, l2', l3, ?_, ?_, fun h1 h2 => ?_, by simp only [List.length_cons, pre_len]; omega⟩
    · have c2 := gt_ev s0 s1 s2 x8 ds D ((x2 :: l2).map d) ((y :: r).map d) (d x) (encP p)
      have hcc : mgC (mgR s0 s1 s2 ds D ((x :: x2 :: l2).map d) ((y :: r).map d) (encP p) x8) = some (.ok 2 (.bool true)) := orT c2
      have hbb : mgB (mgR s0 s1 s2 ds D ((x :: x2 :: l2).map d) ((y :: r).map d) (encP p) x8) = some (.next (mgR s0 s1 s2 (ds ++ [encT "group" p]) (D ++ [d x]) ((x2 :: l2).map d) ((y :: r).map d) (encP (p ++ [1])) x8)) := (if_F c1).trans g
      rw [while_on hcc hbb, e1]
      have : ds ++ encW p (("group", []) :: pre [1] row) = ds ++ [encT "group" p] ++ encW (p ++ [1]) row := by
        rw [encW_cons, encW_pre, List.append_nil, List.append_assoc]; rfl
      rw [this]
    · have hn : nest e κ (x :: x2 :: l2) = opK e (κ x) (nest e κ (x2 :: l2)) := rfl
      have hres : res ≠ [] := fun z => by rw [z] at e4; exact absurd (e4.length_eq) (by simp)
      rw [hn, nest_cons e κ x hres]
      show (turnK _ "group" []).bind _ = _
      rw [turn_nil (go_group e (κ x) (nest e κ (x2 :: l2)) (nest e κ (y :: r)))]
      exact go_R e e3
    · exact e4.cons x
    · have q := e5 (List.pairwise_cons.mp h1).2 h2
      refine List.pairwise_cons.mpr ⟨fun z hz => ?_, q⟩
      rcases List.mem_append.mp (e4.mem_iff.mp hz) with hz | hz
      · exact (List.pairwise_cons.mp h1).1 z hz
      · rcases List.mem_cons.mp hz with rfl | hz
        · exact sxy
        · exact M.tr _ _ _ sxy ((List.pairwise_cons.mp h2).1 z hz)
theorem mg_B (M : MH d lt P S) : ∀ (N : Nat) (l r : List α), l.length + r.length ≤ N → l ≠ [] → r ≠ [] → (∀ x ∈ l, P x) → (∀ x ∈ r, P x) → MgOk e κ d S N 1 l r
  | 0, l, r, h, h1, _, _, _ => absurd (List.length_eq_zero_iff.mp (by omega)) h1
  | N + 1, l, r, h, h1, h2, hl, hr => by
    obtain ⟨x, l', rfl⟩ := List.exists_cons_of_ne_nil h1
    obtain ⟨y, r', rfl⟩ := List.exists_cons_of_ne_nil h2
    have ih := mg_B M N
    cases hxy : lt y x with
    | false =>
      intro s0 s1 s2 x8 ds D p fuel hf hds hp hD hDl
      obtain ⟨row, res, D', L', R', h', x8', e1, e2, l1, l2, l3, e3, e4, e5, e6⟩ := mg_A e κ M N ih x y l' r' h hl hr hxy s0 s1 s2 x8 ds D p fuel (by omega) (by omega) hp hD hDl
      exact ⟨row, res, D', L', R', h', x8', e1, e2, l1, l2, l3, e3, e4, e5, by omega⟩
    | true =>
      have px : P x := hl x (List.mem_cons_self ..)
      have py : P y := hr y (List.mem_cons_self ..)
      have hyx : lt x y = false := M.asym y x py px hxy
      intro s0 s1 s2 x8 ds D p fuel hf hds hp hD hDl
      obtain ⟨f, rfl⟩ : ∃ f, fuel = f + 1 := ⟨fuel - 1, by omega⟩
      have hlt := M.hlt y x py px
      rw [hxy] at hlt
      have c1 := lt_ev s0 s1 s2 x8 ds D (l'.map d) (r'.map d) (d x) (d y) (encP p) hlt
      have c2 := gt_ev s0 s1 s2 x8 ds D (l'.map d) ((y :: r').map d) (d x) (encP p)
      have hcc : mgC (mgR s0 s1 s2 ds D ((x :: l').map d) ((y :: r').map d) (encP p) x8) = some (.ok 2 (.bool true)) := by
        cases hb : (!(l'.map d).isEmpty) with
        | true => rw [hb] at c2; exact orT c2
        | false => rw [hb] at c2; exact (orF c2).trans c1
      have g := swap_ev s0 s1 s2 x8 ds D ((x :: l').map d) ((y :: r').map d) (encP p) (lf_path p) (by omega)
      obtain ⟨row, res, D', L', R', h', x8', e1, e2, l1, l2, l3, e3, e4, e5, e6⟩ := mg_A e κ M N ih y x r' l' (by simp only [List.length_cons] at h ⊢; omega) hr hl hyx s0 s1 s2 none (ds ++ [encT "swap" p]) D p f (by omega) (by simp only [List.length_append, List.length_singleton]; omega) hp hD hDl
      refine ⟨("swap", []) :: row, res, D', L', R', h', x8', ?_, e2, l1, l2, l3, ?_, e4.trans List.perm_append_comm, fun a b => e5 b a, by simp only [List.length_cons]; omega⟩
      · have hbb : mgB (mgR s0 s1 s2 ds D ((x :: l').map d) ((y :: r').map d) (encP p) x8) = some (.next (mgR s0 s1 s2 (ds ++ [encT "swap" p]) D ((y :: r').map d) ((x :: l').map d) (encP p) none)) := (if_T c1).trans g
        rw [while_on hcc hbb]
        refine e1.trans ?_
        have : ds ++ encW p (("swap", []) :: row) = ds ++ [encT "swap" p] ++ encW p row := by
          rw [encW_cons, List.append_nil, List.append_assoc]; rfl
        rw [this]
      · show (turnK _ "swap" []).bind _ = _
        rw [turn_nil (go_swap e _ _)]
        exact e3
/-- a list or a tuple of these -/
def IsSeq (X : PyData) (xs : List PyData) : Prop := X = .list xs ∨ X = .tuple xs
theorem seq_len {X : PyData} {xs : List PyData} (h : IsSeq X xs) : dLen X = some (.int xs.length) := by rcases h with rfl | rfl <;> rfl
theorem seq_list {X : PyData} {xs : List PyData} (h : IsSeq X xs) (hl : lfs xs = true) : dList X = some (.list xs) := by rcases h with rfl | rfl <;> simp [dList, hl]
theorem merged_ok (M : MH d lt P S) (n : Nat) (l r : List α) (X Y : PyData) (p : List Int) (ds : List PyData) (hX : IsSeq X (l.map d)) (hY : IsSeq Y (r.map d)) (hl : ∀ x ∈ l, P x) (hr : ∀ x ∈ r, P x)
    (hN : l.length + r.length ≤ 40000) (hds : ds.length + 2 * (l.length + r.length) + 2 < big) (hp : p.length + (l.length + r.length) ≤ 90000) :
    ∃ (row : TRow) (res : List α), m_merged (n + 1) [X, Y, encP p] ds = some (.list (res.map d), ds ++ encW p row) ∧ goK (opK e (nest e κ l) (nest e κ r)) row = some (nest e κ res) ∧ res.Perm (l ++ r) ∧ (l.Pairwise S → r.Pairwise S → res.Pairwise S) ∧ row.length ≤ 2 * (l.length + r.length) + 1 := by
  have lp := lf_path p
  have ll := lfs_d M l
  have lr := lfs_d M r
  have hx := seq_len hX
  have hy := seq_len hY
  have hx2 := seq_list hX ll
  have hy2 := seq_list hY lr
  rw [List.length_map] at hx hy
  by_cases h1 : l = []
  · subst h1
    refine ⟨[("drop", [])], r, ?_, go_here (go_drop e _), .refl _, fun _ h => h, by simp⟩
    have hb : ds.length < big := by omega
    unfold m_merged
    simp [runRw, b_merged, sSeq, sIf, eEq, e2, eLen, e1, eVar, eC, bindE, bindS, hx, eqII, sAppendT, eTup, eArgs, bindI, lf, lfs, lp, hb, sRetL, eList, hy2, encW, encT]
  · by_cases h2 : r = []
    · subst h2
      refine ⟨[("swap", []), ("drop", [])], l, ?_, ?_, by simp, fun h _ => h, by have := List.length_pos_iff.mpr h1; simp only [List.length_cons, List.length_nil]; omega⟩
      · have hb : ds.length < big := by omega
        have hb2 : ds.length + 1 < big := by omega
        have hn : ((l.length : Int) == 0) = false := by simpa using h1
        unfold m_merged
        simp [runRw, b_merged, sSeq, sIf, eEq, e2, eLen, e1, eVar, eC, bindE, bindS, hx, hy, hn, eqII, sAppendT, eTup, eArgs, bindI, lf, lfs, lp, hb, hb2, sRetL, eList, hx2, encW, encT, sNext]
      · exact go_seq (go_here (go_swap e _ _)) (go_here (go_drop e _))
    · have hn : ((l.length : Int) == 0) = false := by simpa using h1
      have hn2 : ((r.length : Int) == 0) = false := by simpa using h2
      obtain ⟨row, res, D', L', R', h', x8', e1', e2', l1, l2, l3, e3, e4, e5, e6⟩ := mg_B e κ M (l.length + r.length) l r (Nat.le_refl _) h1 h2 hl hr (some (.par X)) (some (.par Y)) (some (.par (encP p))) none ds [] p wFuel (wf_le (by omega)) (by omega) hp (by simp only [List.length_nil]; omega) rfl
      refine ⟨row, res, ?_, e3, e4, e5, e6⟩
      have hlen := congrArg List.length e2'
      simp only [List.length_append, List.length_nil, List.length_map, e4.length_eq, Nat.zero_add] at hlen
      have hbig : (40000 : Nat) ≤ big := by decide
      have a1 : dAdd (.list D') (.list L') = some (.list (D' ++ L')) := by
        have : D'.length + L'.length ≤ big := by omega
        simp [dAdd, l1, l2, this]
      have a2 : dAdd (.list (D' ++ L')) (.list R') = some (.list (res.map d)) := by
        have : (D' ++ L').length + R'.length ≤ big := by rw [List.length_append]; omega
        have q : lfs (D' ++ L') = true := by rw [lfs_append', l1, l2]; rfl
        simp only [dAdd, l3, q, this, decide_true, Bool.and_true, if_true]
        rw [e2']
        simp
      have hW : sWhile mgC mgB (mgR (some (.par X)) (some (.par Y)) (some (.par (encP p))) ds [] (l.map d) (r.map d) (encP p) none) = some (.next (mgR (some (.par X)) (some (.par Y)) (some (.par (encP p))) (ds ++ encW p row) D' L' R' h' x8')) := e1'
      have hE : mgE (mgR (some (.par X)) (some (.par Y)) (some (.par (encP p))) ds [] (l.map d) (r.map d) (encP p) none) = some (.retL (.list (res.map d)) (ds ++ encW p row)) := by
        unfold mgE
        rw [seq_next hW]
        simp [sRetL, mgR, eAdd, e2, eVar, bindE, bindS, a1, a2]
      have hb : b_merged [some (.par X), some (.par Y), some (.par (encP p)), some (.lent ds), none, none, none, none, none] = some (.retL (.list (res.map d)) (ds ++ encW p row)) := by
        refine Eq.trans ?_ hE
        unfold b_merged
        simp only [sSeq, sIf, eEq, e2, eLen, e1, eVar, eC, bindE, bindS, hx, hy, hn, hn2, eqII, sNext, sSet, eLst, eArgs, bindI, eList, hx2, hy2, List.getElem?_cons_succ, List.getElem?_cons_zero, Option.map_some, if_true, lfs, asg, lf, ll, lr, lp, List.set_cons_succ, List.set_cons_zero, Bool.false_eq_true, if_false, Nat.le_refl]
        rfl
      unfold m_merged runRw
      show (match b_merged [some (.par X), some (.par Y), some (.par (encP p)), some (.lent ds), none, none, none, none, none] with | some (.retL d ds') => some (d, ds') | _ => none) = _
      rw [hb]
end
end KT
set_option Elab.async false
set_option linter.all false
set_option maxRecDepth 100000
namespace KT
open PySem PySem.Spec PyProof.Rows
/-! ### what is compared by < -/
mutual
theorem eqvC : ∀ x y : PyData, PyData.eqv x y = PyData.eqv y x
  | .none, y => by cases y <;> simp [PyData.eqv]
  | .bool a, y => by cases y <;> simp [PyData.eqv] <;> exact Bool.beq_comm
  | .int a, y => by cases y <;> simp [PyData.eqv] <;> exact Bool.beq_comm
  | .str a, y => by cases y <;> simp [PyData.eqv]; exact Bool.beq_comm
  | .dict a, y => by cases y <;> simp [PyData.eqv]
  | .list a, y => by
    cases y with
    | list b => simp only [PyData.eqv]; exact eqvCs a b
    | _ => simp [PyData.eqv]
  | .tuple a, y => by
    cases y with
    | tuple b => simp only [PyData.eqv]; exact eqvCs a b
    | _ => simp [PyData.eqv]
theorem eqvCs : ∀ xs ys : List PyData, PyData.eqvAll xs ys = PyData.eqvAll ys xs
  | [], ys => by cases ys <;> rfl
  | x :: xs, ys => by
    cases ys with
    | nil => rfl
    | cons y ys => simp only [PyData.eqvAll]; rw [eqvC x y, eqvCs xs ys]
end
mutual
theorem ltAs : ∀ x y : PyData, ltD x y = some true → ltD y x = some true → False
  | .none, y, h1, h2 => by cases y <;> simp [ltD] at h1
  | .bool a, y, h1, h2 => by cases y <;> simp [ltD] at h1
  | .int a, y, h1, h2 => by
    cases y with
    | int b => simp only [ltD, Option.some.injEq, decide_eq_true_eq] at h1 h2; omega
    | _ => simp [ltD] at h1
  | .str a, y, h1, h2 => by
    cases y with
    | str b => simp only [ltD, Option.some.injEq, decide_eq_true_eq] at h1 h2; exact List.lt_asymm h1 h2
    | _ => simp [ltD] at h1
  | .dict a, y, h1, h2 => by cases y <;> simp [ltD] at h1
  | .list a, y, h1, h2 => by cases y <;> simp [ltD] at h1
  | .tuple a, y, h1, h2 => by
    cases y with
    | tuple b => simp only [ltD] at h1 h2; exact ltAss a b h1 h2
    | _ => simp [ltD] at h1
theorem ltAss : ∀ xs ys : List PyData, ltDs xs ys = some true → ltDs ys xs = some true → False
  | [], ys, h1, h2 => by cases ys <;> simp [ltDs] at h1 h2
  | x :: xs, ys, h1, h2 => by
    cases ys with
    | nil => simp [ltDs] at h1
    | cons y ys =>
      simp only [ltDs] at h1 h2
      rw [eqvC y x] at h2
      by_cases c : PyData.eqv x y = true
      · rw [if_pos c] at h1 h2; exact ltAss xs ys h1 h2
      · rw [if_neg c] at h1 h2; exact ltAs x y h1 h2
end
theorem lt_hd (u v : Str) (xs ys : List PyData) (h : u = v → ∃ b, ltDs xs ys = some b) : ∃ b, ltD (.tuple (.str u :: xs)) (.tuple (.str v :: ys)) = some b := by
  simp only [ltD, ltDs]
  by_cases c : PyData.eqv (.str u) (.str v) = true
  · rw [if_pos c]; exact h (by simpa [PyData.eqv] using c)
  · rw [if_neg c]; exact ⟨_, rfl⟩
theorem lt_two {a b c d : PyData} (h1 : ∃ t, ltD a c = some t) (h2 : ∃ t, ltD b d = some t) : ∃ t, ltDs [a, b] [c, d] = some t := by
  simp only [ltDs]
  split
  · split
    · exact ⟨_, rfl⟩
    · exact h2
  · exact h1
theorem ltTot : ∀ x y : Kd, ∃ b, ltD (enc x) (enc y) = some b
  | .none, y => by cases y <;> exact lt_hd _ _ _ _ fun h => by first | exact ⟨_, rfl⟩ | exact absurd h (by decide +kernel)
  | .one, y => by cases y <;> exact lt_hd _ _ _ _ fun h => by first | exact ⟨_, rfl⟩ | exact absurd h (by decide +kernel)
  | .name i, y => by
    cases y with
    | name j =>
      refine lt_hd _ _ _ _ fun _ => ?_
      simp only [ltDs]
      split
      · exact ⟨_, rfl⟩
      · exact ⟨_, rfl⟩
    | _ => exact lt_hd _ _ _ _ fun h => absurd h (by decide +kernel)
  | .either a b, y => by
    cases y with
    | either c d => exact lt_hd _ _ _ _ fun _ => lt_two (ltTot a c) (ltTot b d)
    | _ => exact lt_hd _ _ _ _ fun h => absurd h (by decide +kernel)
  | .both a b, y => by
    cases y with
    | both c d => exact lt_hd _ _ _ _ fun _ => lt_two (ltTot a c) (ltTot b d)
    | _ => exact lt_hd _ _ _ _ fun h => absurd h (by decide +kernel)
def ltK (x y : Kd) : Bool := (ltD (enc x) (enc y)).getD false
theorem mh_kind : MH enc ltK (fun k => k.leaves ≤ 60) (fun _ _ => True) where
  hlf := enc_lf
  hlt := fun x y hx _ => by
    obtain ⟨b, e⟩ := ltTot x y
    have h : (enc x).depth ≤ 60 := Nat.le_trans (enc_depth x) hx
    simp [dLtG, enc_lay, h, ltK, e]
  asym := fun x y _ _ h => by
    obtain ⟨b, e⟩ := ltTot x y
    obtain ⟨c, f⟩ := ltTot y x
    simp only [ltK, e, f, Option.getD_some] at h ⊢
    subst h
    cases c with
    | false => rfl
    | true => exact (ltAs _ _ e f).elim
  hS := fun _ _ _ _ _ => trivial
  tr := fun _ _ _ _ _ => trivial
theorem mh_name : MH PyData.int ltI (fun _ => True) intOrd.kle where
  hlf := fun _ => rfl
  hlt := fun x y _ _ => by simp [dLtG, PyData.canLay0, PyData.depth, ltD, ltI]
  asym := fun x y _ _ h => by simp [ltI] at *; omega
  hS := fun x y _ _ h => h
  tr := fun x y z h1 h2 => KeyOrd.kle_trans h1 h2
theorem ltDs_int : ∀ a b : List Int, ltDs (a.map .int) (b.map .int) = some (lexL a b)
  | [], [] => rfl
  | [], _ :: _ => rfl
  | _ :: _, [] => rfl
  | x :: xs, y :: ys => by
    simp only [List.map_cons, ltDs, lexL, PyData.eqv]
    by_cases h : x = y
    · subst h; simp [ltDs_int xs ys]
    · simp [h, ltD]
theorem depth_I0 : ∀ ns : List Int, PyData.depthAll (ns.map .int) = 0
  | [] => rfl
  | n :: ns => by simp [PyData.depthAll, PyData.depth, depth_I0 ns]
theorem mh_row : MH rowD lexL (fun _ => True) rowOrd.kle where
  hlf := fun x => lf_path x
  hlt := fun x y _ _ => by
    have h1 : (rowD x).canLay0 = true := lay_path x
    have h2 : (rowD y).canLay0 = true := lay_path y
    have h3 : (rowD x).depth ≤ 60 := by simp only [rowD, PyData.depth]; rw [depth_I0]; decide
    unfold dLtG
    rw [h1, h2, decide_eq_true h3]
    simp [rowD, ltD, ltDs_int]
  asym := fun x y _ _ h => by
    rw [lexL_eq] at *
    cases c : HT.lexLt y x with
    | false => rfl
    | true => have := lex_trans x y x h c; rw [lex_irrefl] at this; cases this
  hS := fun x y _ _ h => by rw [lexL_eq] at h; exact h
  tr := fun x y z h1 h2 => KeyOrd.kle_trans h1 h2
end KT
set_option Elab.async false
set_option linter.all false
set_option maxRecDepth 100000
namespace KT
open PySem PySem.Spec PyProof.Rows
/-! ### in_line -/
theorem eq_list2 (a b : PyData) (h : (PyData.list [a, b]).canLay0 = true) : dEq (.list [a, b]) (.list []) = some (.bool false) := by
  have h1 : eqOk (.list [a, b]) (.list []) = true := by
    simp only [eqOk, h, Bool.true_and]
    simp [PyData.canLay0, PyData.canLayAll0, PyData.depth, PyData.depthAll]
  simp [dEq, dEqB, h1, PyData.eqv, PyData.eqvAll]
theorem eq_nil : dEq (.list []) (.list []) = some (.bool true) := by simp [dEq, dEqB, eqOk, PyData.canLay0, PyData.canLayAll0, PyData.depth, PyData.depthAll, PyData.eqv, PyData.eqvAll]
theorem eq_rowL (l : List Int) : dEq (rowD l) (.list []) = some (.bool false) := by
  have h1 : eqOk (rowD l) (.list []) = true := by
    simp only [eqOk, rowD, lay_path l, show (PyData.tuple (l.map .int)).canLay0 = true from lay_path l, Bool.true_and]
    simp [PyData.canLay0, PyData.canLayAll0, PyData.depth, PyData.depthAll]
  unfold rowD at *
  simp [dEq, dEqB, h1, PyData.eqv]
theorem eqb_row (p : List Int) : dEq (rowD p) (.tuple []) = some (.bool p.isEmpty) := by
  have h1 : eqOk (encP p) (.tuple []) = true := by
    simp [eqOk, lay_path, PyData.canLay0, PyData.canLayAll0, PyData.depth, PyData.depthAll]; omega
  cases p <;> simp [dEq, dEqB, h1, PyData.eqv, PyData.eqvAll, rowD] <;> simp [encP] at h1 <;> simp [h1]
theorem in_nod (gm gi : FR) (ta tb da db dm : PyData) (p : List Int) (ds r1 r2 r3 : List PyData) (hp : p.length ≤ 90000) (ht : (PyData.list [ta, tb]).canLay0 = true)
    (h1 : gi [ta, encP (p ++ [0])] ds = some (da, r1)) (h2 : gi [tb, encP (p ++ [1])] r1 = some (db, r2)) (h3 : gm [da, db, encP p] r2 = some (dm, r3)) :
    runRw 5 (b_in_line gm gi) [.list [ta, tb], encP p] ds = some (dm, r3) := by
  have e0 := add_path p 0 hp
  have e1' := add_path p 1 hp
  have l0 := lf_path (p ++ [0])
  have l1 := lf_path (p ++ [1])
  have q := eq_list2 ta tb ht
  simp [runRw, b_in_line, sSeq, sIf, eIs, e1, eVar, bindE, bindS, dIs, isTy, sNext, eEq, e2, eLst, eArgs, bindI, lfs, q, sXset, callR, argsD, argD, slotD, rowL, demE, dem1, rowS, eAdd, eTup, eC, e0, e1', l0, l1, h1, h2, h3, sXret, isLent]
theorem in_line_ok : ∀ (T : Tr) (n : Nat) (p : List Int) (ds : List PyData), (Full T ∨ T = .nil) → nb T + 1 ≤ n → nb T ≤ 100 → ds.length + 4 * (nb T * nb T) + 2 < big → p.length + 2 * nb T ≤ 80000 →
    ∃ (row : TRow) (L : List (List Int)), m_in_line n [encTr T, encP p] ds = some (.list (L.map rowD), ds ++ encW p row) ∧ goK (trK T) row = some (pk L) ∧ L.Pairwise rowOrd.kle ∧ (∀ r ∈ L, Ris r) ∧ L.length = nb T ∧ row.length ≤ 4 * (nb T * nb T)
  | .nil, n, p, ds, hF, hn, h100, hds, hp => by
    obtain ⟨m, rfl⟩ : ∃ m, n = m + 1 := ⟨n - 1, by omega⟩
    refine ⟨[], [], ?_, rfl, .nil, by simp, rfl, Nat.zero_le _⟩
    unfold m_in_line
    simp [runRw, b_in_line, encTr, encW, sSeq, sIf, eIs, e1, eVar, bindE, bindS, dIs, isTy, sNext, eEq, e2, eLst, eArgs, bindI, lfs, eq_nil, sRetL]
  | .bun l, n, p, ds, hF, hn, h100, hds, hp => by
    obtain ⟨m, rfl⟩ : ∃ m, n = m + 1 := ⟨n - 1, by omega⟩
    have hR : Ris l := by rcases hF with h | h; exact h; cases h
    refine ⟨[], [l], ?_, rfl, List.pairwise_singleton _ _, by simpa using hR, rfl, Nat.zero_le _⟩
    have hl : lf (rowD l) = true := lf_path l
    unfold rowD at hl
    unfold m_in_line
    simp [runRw, b_in_line, encTr, rowD, encW, sSeq, sIf, eIs, e1, eVar, bindE, bindS, dIs, isTy, sNext, eLst, eArgs, bindI, lfs, hl, sRetL]
  | .nod a b, n, p, ds, hF, hn, h100, hds, hp => by
    obtain ⟨m, rfl⟩ : ∃ m, n = m + 1 := ⟨n - 1, by omega⟩
    have hF : Full a ∧ Full b := by rcases hF with h | h; exact h; cases h
    have pa := nb_pos a hF.1
    have pb := nb_pos b hF.2
    simp only [nb] at hn h100 hds hp ⊢
    have hsq : (nb a + nb b) * (nb a + nb b) = nb a * nb a + nb b * nb b + 2 * (nb a * nb b) := by
      rw [Nat.add_mul, Nat.mul_add, Nat.mul_add, Nat.mul_comm (nb b) (nb a)]; omega
    have hab : nb a + nb b ≤ nb a * nb b + 1 := by
      obtain ⟨x, hx⟩ : ∃ x, nb a = x + 1 := ⟨nb a - 1, by omega⟩
      obtain ⟨y, hy⟩ : ∃ y, nb b = y + 1 := ⟨nb b - 1, by omega⟩
      rw [hx, hy, Nat.add_mul, Nat.mul_add]; omega
    rw [hsq] at hds ⊢
    obtain ⟨ra, La, a1, a2, a3, a4, a5, a6⟩ := in_line_ok a m (p ++ [0]) ds (.inl hF.1) (by omega) (by omega) (by omega) (by simp only [List.length_append, List.length_singleton]; omega)
    have hds1 : (ds ++ encW (p ++ [0]) ra).length = ds.length + ra.length := by rw [List.length_append, encW_len]
    obtain ⟨rb, Lb, b1, b2, b3, b4, b5, b6⟩ := in_line_ok b m (p ++ [1]) (ds ++ encW (p ++ [0]) ra) (.inl hF.2) (by omega) (by omega) (by rw [hds1]; omega) (by simp only [List.length_append, List.length_singleton]; omega)
    have hds2 : (ds ++ encW (p ++ [0]) ra ++ encW (p ++ [1]) rb).length = ds.length + ra.length + rb.length := by rw [List.length_append, encW_len, hds1]
    obtain ⟨k, rfl⟩ : ∃ k, m = k + 1 := ⟨m - 1, by omega⟩
    obtain ⟨rm, L, m1, m2, m3, m4, m5⟩ := merged_ok true bk mh_row k La Lb (.list (La.map rowD)) (.list (Lb.map rowD)) p (ds ++ encW (p ++ [0]) ra ++ encW (p ++ [1]) rb) (.inl rfl) (.inl rfl) (fun _ _ => trivial) (fun _ _ => trivial) (by rw [a5, b5]; omega) (by rw [hds2, a5, b5]; omega) (by rw [a5, b5]; omega)
    rw [a5, b5] at m5
    refine ⟨pre [0] ra ++ pre [1] rb ++ rm, L, ?_, ?_, m4 a3 b3, fun r hr => ?_, by rw [m3.length_eq, List.length_append, a5, b5], by simp only [List.length_append, pre_len]; omega⟩
    · unfold m_in_line
      rw [show encTr (.nod a b) = .list [encTr a, encTr b] from rfl]
      rw [encW_app, encW_app, encW_pre, encW_pre, ← List.append_assoc, ← List.append_assoc]
      exact in_nod _ _ _ _ _ _ _ p ds _ _ _ (by omega) (tr_lay (.nod a b)) a1 b1 m1
    · refine go_seq (c := opK true (pk La) (pk Lb)) (go_seq (c := opK true (pk La) (trK b)) (go_L true a2) (go_R true b2)) ?_
      rw [pk_nest, pk_nest, pk_nest]
      exact m2
    · rcases List.mem_append.mp (m3.mem_iff.mp hr) with h | h
      · exact a4 r h
      · exact b4 r h
/-! ### both_of_trees, spread_tree -/
theorem bot_L (gm gs : FR) (xs : List PyData) (S d : PyData) (p : List Int) (ds r : List PyData) (hb : ds.length < big) (h : gs [S, .list xs, encP p] (ds ++ [encT "swap" p]) = some (d, r)) :
    runRw 4 (b_both_of_trees gm gs) [.list xs, S, encP p] ds = some (d, r) := by
  have lp := lf_path p
  unfold encT at h
  simp [runRw, b_both_of_trees, sSeq, sIf, eIs, e1, eVar, bindE, bindS, dIs, isTy, sAppendT, eTup, eArgs, bindI, eC, lf, lfs, lp, hb, sXret, callR, argsD, argD, slotD, rowL, h, isLent]
theorem bot_R (gm gs : FR) (f xs : List PyData) (d : PyData) (p : List Int) (ds r : List PyData) (h : gs [.tuple f, .list xs, encP p] ds = some (d, r)) :
    runRw 4 (b_both_of_trees gm gs) [.tuple f, .list xs, encP p] ds = some (d, r) := by
  simp [runRw, b_both_of_trees, sSeq, sIf, eIs, e1, eVar, bindE, bindS, dIs, isTy, sNext, sXret, callR, argsD, argD, slotD, rowL, h, isLent]
theorem bot_T (gm gs : FR) (f s res : List PyData) (p : List Int) (ds r : List PyData) (hl : lfs res = true) (h : gm [.tuple f, .tuple s, encP p] ds = some (.list res, r)) :
    runRw 4 (b_both_of_trees gm gs) [.tuple f, .tuple s, encP p] ds = some (.tuple res, r) := by
  simp [runRw, b_both_of_trees, sSeq, sIf, eIs, e1, eVar, bindE, bindS, dIs, isTy, sNext, sXretT, callR, argsD, argD, slotD, rowL, h, isLent, hl]
theorem spr_D (gb : FR) (A S : PyData) (p : List Int) (ds : List PyData) (hb : ds.length < big) (h : dEq A (.tuple []) = some (.bool true)) :
    runRw 6 (b_spread_tree gb) [A, S, encP p] ds = some (S, ds ++ [encT "drop" p]) := by
  have lp := lf_path p
  simp [runRw, b_spread_tree, sSeq, sIf, eEq, e2, eVar, eTup, eArgs, bindI, bindE, bindS, h, sAppendT, eC, lf, lfs, lp, hb, sRetN, slotD, encT]
theorem spr_S (gb : FR) (A ta tb da db : PyData) (p : List Int) (ds r1 r2 : List PyData) (hp : p.length ≤ 90000) (hb : ds.length < big) (h : dEq A (.tuple []) = some (.bool false))
    (h1 : gb [A, ta, encP (p ++ [0])] (ds ++ [encT "spread" p]) = some (da, r1)) (h2 : gb [A, tb, encP (p ++ [1])] r1 = some (db, r2)) :
    runRw 6 (b_spread_tree gb) [A, .list [ta, tb], encP p] ds = some (.list [da, db], r2) := by
  have lp := lf_path p
  have e0 := add_path p 0 hp
  have e1' := add_path p 1 hp
  have l0 := lf_path (p ++ [0])
  have l1 := lf_path (p ++ [1])
  unfold encT at h1
  simp [runRw, b_spread_tree, sSeq, sIf, eEq, e2, eVar, eTup, eArgs, bindI, bindE, bindS, h, sNext, sAppendT, eC, lf, lfs, lp, hb, sXset, callR, argsD, argD, slotD, rowL, demE, dem1, rowS, eAdd, e0, e1', l0, l1, h1, h2, sRetP]
def BotOk (F S : Tr) : Prop := ∀ (n : Nat) (p : List Int) (ds : List PyData), 2 * (nb F + nb S) ≤ n → p.length + nb F + nb S + 40 ≤ 80000 → ds.length + 85 * (nb F * nb S) + 2 < big →
  ∃ (row : TRow) (T : Tr), m_both_of_trees n [encTr F, encTr S, encP p] ds = some (encTr T, ds ++ encW p row) ∧ goK (.both (trK F) (trK S)) row = some (trK T) ∧ Full T ∧ row.length + 3 ≤ 85 * (nb F * nb S)
theorem spr_ok (A l r : Tr) (hA : Full A) (hl : Full l) (hr : Full r) (kl : BotOk A l) (kr : BotOk A r) (n : Nat) (p : List Int) (ds : List PyData) (hn : 2 * (nb A + (nb l + nb r)) ≤ n + 1) (hp : p.length + nb A + (nb l + nb r) + 40 ≤ 80000)
    (hds : ds.length + 85 * (nb A * (nb l + nb r)) + 1 < big) : ∃ (row : TRow) (T : Tr), m_spread_tree n [encTr A, encTr (.nod l r), encP p] ds = some (encTr T, ds ++ encW p row) ∧ goK (.both (trK A) (.either (trK l) (trK r))) row = some (trK T) ∧ Full T ∧ row.length + 4 ≤ 85 * (nb A * (nb l + nb r)) := by
  obtain ⟨m, rfl⟩ : ∃ m, n = m + 1 := ⟨n - 1, by have := nb_pos A hA; omega⟩
  have pA := nb_pos A hA
  have pl := nb_pos l hl
  have pr := nb_pos r hr
  have hm : nb A * (nb l + nb r) = nb A * nb l + nb A * nb r := Nat.mul_add _ _ _
  have m1 : 1 ≤ nb A * nb l := Nat.mul_pos pA pl
  have m2 : 1 ≤ nb A * nb r := Nat.mul_pos pA pr
  have hs : ∀ (hh : dEq (encTr A) (.tuple []) = some (.bool false)), ∃ (row : TRow) (T : Tr), m_spread_tree (m + 1) [encTr A, encTr (.nod l r), encP p] ds = some (encTr T, ds ++ encW p row) ∧ goK (.both (trK A) (.either (trK l) (trK r))) row = some (trK T) ∧ Full T ∧ row.length + 4 ≤ 85 * (nb A * (nb l + nb r)) := fun hh => by
    rw [hm] at hds ⊢
    obtain ⟨r1, T1, a1, a2, a3, a4⟩ := kl m (p ++ [0]) (ds ++ [encT "spread" p]) (by omega) (by simp only [List.length_append, List.length_singleton]; omega) (by simp only [List.length_append, List.length_singleton]; omega)
    obtain ⟨r2, T2, b1, b2, b3, b4⟩ := kr m (p ++ [1]) (ds ++ [encT "spread" p] ++ encW (p ++ [0]) r1) (by omega) (by simp only [List.length_append, List.length_singleton]; omega) (by simp only [List.length_append, List.length_singleton, encW_len]; omega)
    refine ⟨("spread", []) :: (pre [0] r1 ++ pre [1] r2), .nod T1 T2, ?_, ?_, ⟨a3, b3⟩, by simp only [List.length_cons, List.length_append, pre_len]; omega⟩
    · rw [show m_spread_tree (m + 1) = runRw 6 (b_spread_tree (m_both_of_trees m)) from rfl]
      have := spr_S (m_both_of_trees m) (encTr A) (encTr l) (encTr r) (encTr T1) (encTr T2) p ds _ _ (by omega) (by omega) hh a1 b1
      rw [show encTr (.nod l r) = .list [encTr l, encTr r] from rfl, this]
      rw [encW_cons, encW_app, encW_pre, encW_pre, List.append_nil]
      simp [encTr]
    · show (turnK _ "spread" []).bind _ = _
      rw [turn_nil (c := .either (.both (trK A) (trK l)) (.both (trK A) (trK r))) (by rw [here_spread]; rfl)]
      exact go_seq (c := opK true (trK T1) (.both (trK A) (trK r))) (go_L true a2) (go_R true b2)
  cases A with
  | nil => exact hA.elim
  | nod a b =>
    refine hs ?_
    have h1 : eqOk (encTr (.nod a b)) (.tuple []) = true := by
      simp only [eqOk, tr_lay, Bool.true_and]
      simp [PyData.canLay0, PyData.canLayAll0, PyData.depth, PyData.depthAll]; omega
    unfold encTr at h1 ⊢
    simp [dEq, dEqB, h1, PyData.eqv]
  | bun f =>
    by_cases h0 : f = []
    · subst h0
      refine ⟨[("drop", [])], .nod l r, ?_, go_here (by rw [here_drop]; rfl), ⟨hl, hr⟩, ?_⟩
      · rw [show m_spread_tree (m + 1) = runRw 6 (b_spread_tree (m_both_of_trees m)) from rfl]
        refine (spr_D _ _ _ p ds (by omega) (eqb_row [])).trans ?_
        rw [encW_cons, List.append_nil]; rfl
      · simp only [nb, List.length_singleton] at *; omega
    · refine hs ?_
      have := eqb_row f
      cases f with
      | nil => exact absurd rfl h0
      | cons x f => exact this
theorem bot_ok : ∀ (m : Nat) (F S : Tr), nb F + nb S ≤ m → Full F → Full S → (trK F).leaves + (trK S).leaves ≤ 40 → BotOk F S
  | 0, F, S, h, hF, _, _ => by have := nb_pos F hF; omega
  | m + 1, F, S, h, hF, hS, hw => by
    intro n p ds hn hp hds
    have pF := nb_pos F hF
    have pS := nb_pos S hS
    obtain ⟨k, rfl⟩ : ∃ k, n = k + 2 := ⟨n - 2, by omega⟩
    cases F with
    | nil => exact hF.elim
    | nod a b =>
      simp only [nb] at h hn hp hds pF ⊢
      have pa := nb_pos a hF.1
      have pb := nb_pos b hF.2
      have hm : (nb a + nb b) * nb S = nb S * (nb a + nb b) := Nat.mul_comm _ _
      have m1 : 1 ≤ nb S * (nb a + nb b) := Nat.mul_pos pS pF
      rw [hm] at hds ⊢
      have wl : (trK S).leaves + (trK a).leaves ≤ 40 := by simp only [trK, Kd.leaves] at hw; omega
      have wr : (trK S).leaves + (trK b).leaves ≤ 40 := by simp only [trK, Kd.leaves] at hw; omega
      obtain ⟨row, T, e1, e2, e3, e4⟩ := spr_ok S a b hS hF.1 hF.2 (bot_ok m S a (by omega) hS hF.1 wl) (bot_ok m S b (by omega) hS hF.2 wr) (k + 1) p (ds ++ [encT "swap" p]) (by omega) (by omega) (by simp only [List.length_append, List.length_singleton]; omega)
      refine ⟨("swap", []) :: row, T, ?_, ?_, e3, by simp only [List.length_cons]; omega⟩
      · rw [show m_both_of_trees (k + 2) = runRw 4 (b_both_of_trees (m_merged (k + 1)) (m_spread_tree (k + 1))) from rfl]
        have := bot_L (m_merged (k + 1)) (m_spread_tree (k + 1)) [encTr a, encTr b] (encTr S) (encTr T) p ds _ (by omega) e1
        rw [show encTr (.nod a b) = .list [encTr a, encTr b] from rfl, this, encW_cons, List.append_nil]
        simp
      · show (turnK _ "swap" []).bind _ = _
        rw [turn_nil (c := .both (trK S) (.either (trK a) (trK b))) (by rw [here_swap]; rfl)]
        exact e2
    | bun f =>
      cases S with
      | nil => exact hS.elim
      | nod a b =>
        simp only [nb] at h hn hp hds pS ⊢
        have pa := nb_pos a hS.1
        have pb := nb_pos b hS.2
        have wl : (trK (.bun f)).leaves + (trK a).leaves ≤ 40 := by simp only [trK, Kd.leaves] at hw ⊢; omega
        have wr : (trK (.bun f)).leaves + (trK b).leaves ≤ 40 := by simp only [trK, Kd.leaves] at hw ⊢; omega
        obtain ⟨row, T, e1, e2, e3, e4⟩ := spr_ok (.bun f) a b hF hS.1 hS.2 (bot_ok m (.bun f) a (by simp only [nb]; omega) hF hS.1 wl) (bot_ok m (.bun f) b (by simp only [nb]; omega) hF hS.2 wr) (k + 1) p ds (by simp only [nb]; omega) (by simp only [nb]; omega) (by simp only [nb]; omega)
        refine ⟨row, T, ?_, e2, e3, by simp only [nb] at e4; omega⟩
        rw [show m_both_of_trees (k + 2) = runRw 4 (b_both_of_trees (m_merged (k + 1)) (m_spread_tree (k + 1))) from rfl]
        exact bot_R (m_merged (k + 1)) (m_spread_tree (k + 1)) (f.map .int) [encTr a, encTr b] (encTr T) p ds _ e1
      | bun s =>
        simp only [nb] at h hn hp hds pS ⊢
        have w1 := len_bk f
        have w2 := len_bk s
        simp only [trK] at hw
        obtain ⟨row, res, e1, e2, e3, e4, e5⟩ := merged_ok false .name mh_name k f s (rowD f) (rowD s) p ds (.inr rfl) (.inr rfl) (fun _ _ => trivial) (fun _ _ => trivial) (by omega) (by omega) (by omega)
        refine ⟨row, .bun res, ?_, ?_, e4 hF hS, by omega⟩
        · rw [show m_both_of_trees (k + 2) = runRw 4 (b_both_of_trees (m_merged (k + 1)) (m_spread_tree (k + 1))) from rfl]
          exact bot_T (m_merged (k + 1)) (m_spread_tree (k + 1)) (f.map .int) (s.map .int) (res.map .int) p ds _ (lfs_ints res) e1
        · show goK (.both (bk f) (bk s)) row = some (bk res)
          rw [bk_nest, bk_nest, bk_nest]
          exact e2
end KT
set_option Elab.async false
set_option linter.all false
set_option maxRecDepth 100000
namespace KT
open PySem
/-! ### is_barren -/
theorem barren_ok : ∀ (k : Kd) (n : Nat), k.leaves ≤ n → m_is_barren n [enc k] = some (.ok (.bool (brn k)))
  | .none, n + 1, _ => by
    unfold m_is_barren
    simp [runB, b_is_barren, sSeq, sSet, eIx, e2, eVar, eC, bindE, bindS, enc, dIx, atP, ixP, asg, lf, sIf, eEq, dEq, dEqB, sRet, brn, w13, w14, sNext]
  | .one, n + 1, _ => by
    unfold m_is_barren
    simp [runB, b_is_barren, sSeq, sSet, eIx, e2, eVar, eC, bindE, bindS, enc, dIx, atP, ixP, asg, lf, sIf, eEq, dEq, dEqB, sRet, brn, w15, w16, w08, sNext]
  | .name i, n + 1, _ => by
    unfold m_is_barren
    simp [runB, b_is_barren, sSeq, sSet, eIx, e2, eVar, eC, bindE, bindS, enc, dIx, atP, ixP, asg, lf, sIf, eEq, dEq, dEqB, sRet, brn, w17, w18, w09, sNext]
  | .either a b, n + 1, hn => by
    have pa := a.pos
    have pb := b.pos
    simp only [Kd.leaves] at hn
    have ea := barren_ok a n (by omega)
    have eb := barren_ok b n (by omega)
    have e0 : atP [PyData.str "either", enc a, enc b] 0 = some (.str "either") := rfl
    have e1 : atP [PyData.str "either", enc a, enc b] 1 = some (enc a) := rfl
    have e2' : atP [PyData.str "either", enc a, enc b] 2 = some (enc b) := rfl
    unfold m_is_barren
    cases ha : brn a <;> simp [runB, b_is_barren, sSeq, sSet, eIx, e2, eVar, eC, bindE, bindS, enc, dIx, e0, e1, e2', asg, lf, sIf, eEq, dEq, dEqB, sRet, eAnd, eCall, eArgs, bindI, ea, eb, ofRC, ha, brn]
  | .both a b, n + 1, hn => by
    have pa := a.pos
    have pb := b.pos
    simp only [Kd.leaves] at hn
    have ea := barren_ok a n (by omega)
    have eb := barren_ok b n (by omega)
    have e0 : atP [PyData.str "both", enc a, enc b] 0 = some (.str "both") := rfl
    have e1 : atP [PyData.str "both", enc a, enc b] 1 = some (enc a) := rfl
    have e2' : atP [PyData.str "both", enc a, enc b] 2 = some (enc b) := rfl
    unfold m_is_barren
    cases ha : brn a <;> simp [runB, b_is_barren, sSeq, sSet, eIx, e2, eVar, eC, bindE, bindS, enc, dIx, e0, e1, e2', asg, lf, sIf, eEq, dEq, dEqB, sRet, eOr, eCall, eArgs, bindI, ea, eb, ofRC, ha, brn, w07, sNext]
  | .none, 0, h => by simp [Kd.leaves] at h
  | .one, 0, h => by simp [Kd.leaves] at h
  | .name _, 0, h => by simp [Kd.leaves] at h
  | .either a b, 0, h => by have := a.pos; simp only [Kd.leaves] at h; omega
  | .both a b, 0, h => by have := a.pos; simp only [Kd.leaves] at h; omega
end KT
set_option Elab.async false
set_option linter.all false
set_option maxRecDepth 100000
namespace KT
open PySem PySem.Spec PyProof.Rows
/-! ### factors_in_line -/
def nf : Kd → Nat
  | .both a b => nf a + nf b
  | _ => 1
def isBoth : Kd → Bool
  | .both _ _ => true
  | _ => false
theorem nf_pos : ∀ k : Kd, 1 ≤ nf k
  | .both a b => by have := nf_pos a; simp only [nf]; omega
  | .none => Nat.le_refl _
  | .one => Nat.le_refl _
  | .name _ => Nat.le_refl _
  | .either _ _ => Nat.le_refl _
theorem nf_leaves : ∀ k : Kd, nf k ≤ k.leaves
  | .both a b => by have := nf_leaves a; have := nf_leaves b; simp only [nf, Kd.leaves]; omega
  | .none => Nat.le_refl _
  | .one => Nat.le_refl _
  | .name _ => Nat.le_refl _
  | .either a b => Kd.pos _
def lsum : List Kd → Nat
  | [] => 0
  | k :: r => k.leaves + lsum r
theorem lsum_app : ∀ l r : List Kd, lsum (l ++ r) = lsum l + lsum r
  | [], r => by simp [lsum]
  | k :: l, r => by simp only [List.cons_append, lsum, lsum_app l r]; omega
theorem lsum_perm {l r : List Kd} (h : l.Perm r) : lsum l = lsum r := by
  induction h with
  | nil => rfl
  | cons x _ ih => simp only [lsum, ih]
  | swap x y l => simp only [lsum]; omega
  | trans _ _ h1 h2 => exact h1.trans h2
theorem lsum_len : ∀ l : List Kd, l.length ≤ lsum l
  | [] => Nat.le_refl _
  | k :: l => by have := lsum_len l; have := k.pos; simp only [lsum, List.length_cons]; omega
theorem mem_lsum {k : Kd} {l : List Kd} (h : k ∈ l) : k.leaves ≤ lsum l := by
  induction l with
  | nil => cases h
  | cons x l ih =>
    rcases List.mem_cons.mp h with rfl | h
    · simp only [lsum]; omega
    · have := ih h; simp only [lsum]; omega
theorem fac_leaf (gm gf : FR) (k : Kd) (p : List Int) (ds : List PyData) (h : isBoth k = false) : runRw 5 (b_factors_in_line gm gf) [enc k, encP p] ds = some (.list [enc k], ds) := by
  have hl := enc_lf k
  have hw : ∃ (w : Str) (xs : List PyData), enc k = .tuple (.str w :: xs) ∧ (w == "both") = false := by
    cases k with
    | none => exact ⟨_, _, rfl, by decide +kernel⟩
    | one => exact ⟨_, _, rfl, by decide +kernel⟩
    | name i => exact ⟨_, _, rfl, by decide +kernel⟩
    | either a b => exact ⟨_, _, rfl, by decide +kernel⟩
    | both a b => cases h
  obtain ⟨w, xs, e, hw⟩ := hw
  rw [e] at hl ⊢
  have a0 : atP (PyData.str w :: xs) 0 = some (.str w) := at0 _ _
  simp [runRw, b_factors_in_line, sSeq, sIf, eNe, e2, eIx, eVar, eC, bindE, bindS, dIx, a0, neSS, hw, sRetL, eLst, eArgs, bindI, lfs, hl]
theorem fac_both (gm gf : FR) (a b : Kd) (da db dm : PyData) (p : List Int) (ds r1 r2 r3 : List PyData) (hp : p.length ≤ 90000)
    (h1 : gf [enc a, encP (p ++ [0])] ds = some (da, r1)) (h2 : gf [enc b, encP (p ++ [1])] r1 = some (db, r2)) (h3 : gm [da, db, encP p] r2 = some (dm, r3)) :
    runRw 5 (b_factors_in_line gm gf) [enc (.both a b), encP p] ds = some (dm, r3) := by
  have e0 := add_path p 0 hp
  have e1' := add_path p 1 hp
  have l0 := lf_path (p ++ [0])
  have l1 := lf_path (p ++ [1])
  have la := enc_lf a
  have lb' := enc_lf b
  have a0 : atP [PyData.str "both", enc a, enc b] 0 = some (.str "both") := rfl
  have a1 : atP [PyData.str "both", enc a, enc b] 1 = some (enc a) := rfl
  have a2 : atP [PyData.str "both", enc a, enc b] 2 = some (enc b) := rfl
  simp [runRw, b_factors_in_line, enc, sSeq, sIf, eNe, e2, eIx, eVar, eC, bindE, bindS, dIx, a0, a1, a2, neSS, sNext, sXset, callR, argsD, argD, slotD, rowL, demE, dem1, rowS, eAdd, eTup, eArgs, bindI, e0, e1', l0, l1, la, lb', h1, h2, h3, sXret, isLent]
theorem fac_ok : ∀ (k : Kd) (n : Nat) (p : List Int) (ds : List PyData), k.leaves ≤ n → k.leaves ≤ 60 → ds.length + 4 * (nf k * nf k) + 2 < big → p.length + 2 * k.leaves ≤ 80000 →
    ∃ (row : TRow) (fs : List Kd), m_factors_in_line n [enc k, encP p] ds = some (.list (fs.map enc), ds ++ encW p row) ∧ goK k row = some (nest false id fs) ∧ fs.length = nf k ∧ lsum fs = k.leaves ∧ row.length + 4 * nf k ≤ 4 * (nf k * nf k) := by
  intro k
  by_cases hk : isBoth k = false
  · intro n p ds hn _ _ _
    obtain ⟨m, rfl⟩ : ∃ m, n = m + 1 := ⟨n - 1, by have := k.pos; omega⟩
    have e1 : nf k = 1 := by cases k <;> first | rfl | cases hk
    refine ⟨[], [k], ?_, rfl, by rw [e1]; rfl, by simp [lsum], by rw [e1]; decide⟩
    rw [show m_factors_in_line (m + 1) = runRw 5 (b_factors_in_line (m_merged m) (m_factors_in_line m)) from rfl, fac_leaf _ _ k p ds hk]
    simp [encW]
  · cases k with
    | none => exact absurd rfl hk
    | one => exact absurd rfl hk
    | name i => exact absurd rfl hk
    | either a b => exact absurd rfl hk
    | both a b =>
      intro n p ds hn h60 hds hp
      have pa := a.pos
      have pb := b.pos
      have na := nf_pos a
      have nb' := nf_pos b
      have la := nf_leaves a
      have lb' := nf_leaves b
      simp only [Kd.leaves, nf] at hn h60 hds hp ⊢
      obtain ⟨m, rfl⟩ : ∃ m, n = m + 2 := ⟨n - 2, by omega⟩
      have hsq : (nf a + nf b) * (nf a + nf b) = nf a * nf a + nf b * nf b + 2 * (nf a * nf b) := by
        rw [Nat.add_mul, Nat.mul_add, Nat.mul_add, Nat.mul_comm (nf b) (nf a)]; omega
      have hab : nf a + nf b ≤ nf a * nf b + 1 := by
        obtain ⟨x, hx⟩ : ∃ x, nf a = x + 1 := ⟨nf a - 1, by omega⟩
        obtain ⟨y, hy⟩ : ∃ y, nf b = y + 1 := ⟨nf b - 1, by omega⟩
        rw [hx, hy, Nat.add_mul, Nat.mul_add]; omega
      rw [hsq] at hds ⊢
      obtain ⟨ra, La, a1, a2, a3, a4, a5⟩ := fac_ok a (m + 1) (p ++ [0]) ds (by omega) (by omega) (by omega) (by simp only [List.length_append, List.length_singleton]; omega)
      have hds1 : (ds ++ encW (p ++ [0]) ra).length = ds.length + ra.length := by rw [List.length_append, encW_len]
      obtain ⟨rb, Lb, b1, b2, b3, b4, b5⟩ := fac_ok b (m + 1) (p ++ [1]) (ds ++ encW (p ++ [0]) ra) (by omega) (by omega) (by rw [hds1]; omega) (by simp only [List.length_append, List.length_singleton]; omega)
      have hds2 : (ds ++ encW (p ++ [0]) ra ++ encW (p ++ [1]) rb).length = ds.length + ra.length + rb.length := by rw [List.length_append, encW_len, hds1]
      obtain ⟨rm, L, m1, m2, m3, m4, m5⟩ := merged_ok false id mh_kind m La Lb (.list (La.map enc)) (.list (Lb.map enc)) p (ds ++ encW (p ++ [0]) ra ++ encW (p ++ [1]) rb) (.inl rfl) (.inl rfl) (fun x hx => by have := mem_lsum hx; rw [a4] at this; show x.leaves ≤ 60; omega) (fun x hx => by have := mem_lsum hx; rw [b4] at this; show x.leaves ≤ 60; omega) (by rw [a3, b3]; omega) (by rw [hds2, a3, b3]; omega) (by rw [a3, b3]; omega)
      rw [a3, b3] at m5
      refine ⟨pre [0] ra ++ pre [1] rb ++ rm, L, ?_, ?_, by rw [m3.length_eq, List.length_append, a3, b3], by rw [lsum_perm m3, lsum_app, a4, b4], by simp only [List.length_append, pre_len]; omega⟩
      · rw [show m_factors_in_line (m + 2) = runRw 5 (b_factors_in_line (m_merged (m + 1)) (m_factors_in_line (m + 1))) from rfl]
        rw [encW_app, encW_app, encW_pre, encW_pre, ← List.append_assoc, ← List.append_assoc]
        exact fac_both _ _ a b _ _ _ p ds _ _ _ (by omega) a1 b1 m1
      · exact go_seq (c := opK false (nest false id La) (nest false id Lb)) (go_seq (c := opK false (nest false id La) b) (go_L false a2) (go_R false b2)) m2
termination_by k => k.leaves
decreasing_by all_goals (simp only [Kd.leaves]; omega)
end KT
set_option Elab.async false
set_option linter.all false
set_option maxRecDepth 100000
namespace KT
open PySem PySem.Spec PyProof.Rows
/-! ### tree_of, barren_tree, product_tree: what they run -/
def ones (j : Nat) : List Int := List.replicate j 1
theorem ones_len (j : Nat) : (ones j).length = j := by simp [ones]
theorem ones_succ (j : Nat) : ones (j + 1) = ones j ++ [1] := by simp [ones, List.replicate_succ']
theorem mul_ones (j : Nat) (h : j ≤ 90000) : dMulT (.tuple [.int 1]) (.int (j : Int)) = some (encP (ones j)) := by
  have h1 : j ≤ big := Nat.le_trans h (by decide)
  have e : ∀ j : Nat, (List.replicate j [PyData.int 1]).flatten = (ones j).map .int := fun j => by
    induction j with
    | zero => rfl
    | succ j ih => rw [List.replicate_succ, List.flatten_cons, ih]; simp [ones, List.replicate_succ]
  have h2 : ([PyData.int 1].length * (j : Int).toNat ≤ big) := by simpa using h1
  have h3 : (j : Int).natAbs ≤ big := by simpa using h1
  simp [dMulT, lfs, lf, h1, e, encP]
theorem cat_path (p q : List Int) (h : p.length + q.length ≤ 90000) : dAdd (encP p) (encP q) = some (encP (p ++ q)) := by
  have hb : p.length + q.length ≤ big := Nat.le_trans h (by decide)
  simp [dAdd, encP, lfs_ints, hb]
theorem atP_n0 {α : Type} {xs : List α} {k : Nat} {v : α} (h : xs[k]? = some v) : atP xs (k : Int) = some v := by
  have hk : k < xs.length := (List.getElem?_eq_some_iff.mp h).1
  have : (k : Int) < xs.length := by omega
  simp [atP, ixP, this, h]
theorem down_suc0 (n : Nat) : downFrom (n + 1) = .int n :: downFrom n := by
  unfold downFrom
  rw [List.range_succ_eq_map, List.map_cons, List.map_map]
  congr 1
  · congr 1; omega
  · exact List.map_congr_left fun a _ => by simp only [Function.comp_def]; congr 1; omega
def ptB (gb gt : FR) : FS := (sSeq (sSet 7 (eAdd (eVar 1) (eMulT (eTup [(eC (.int 1))]) (eVar 6)))) (sSeq (sXset 8 gt [.f (eIx (eVar 3) (eVar 6)), .f (eAdd (eVar 7) (eTup [(eC (.int 0))]))] 2) (sXset 5 gb [.n 8, .n 5, .n 7] 2)))
def ptR (K P : PyData) (ds FS : List PyData) (l : Int) (T : PyData) (x6 x7 x8 : Option Slot) : Rho := [some (.par K), some (.par P), some (.lent ds), some (.par (.list FS)), some (.loc (.int l)), some (.par T), x6, x7, x8]
theorem pt_body (gb gt : FR) (K T x t1 t2 : PyData) (p : List Int) (ds r1 r2 FS : List PyData) (l : Int) (j : Nat) (x7 x8 : Option Slot) (hp : p.length + j ≤ 80000) (hx : FS[j]? = some x) (lx : lf x = true)
    (h1 : gt [x, encP (p ++ ones j ++ [0])] ds = some (t1, r1)) (h2 : gb [t1, T, encP (p ++ ones j)] r1 = some (t2, r2)) :
    ptB gb gt (ptR K (encP p) ds FS l T (some (.loc (.int (j : Int)))) x7 x8) = some (.next (ptR K (encP p) r2 FS l t2 (some (.loc (.int (j : Int)))) (some (.loc (encP (p ++ ones j)))) (some (.par t1)))) := by
  have e0 := add_path (p ++ ones j) 0 (by rw [List.length_append, ones_len]; omega)
  have l0 := lf_path (p ++ ones j ++ [0])
  have l1 := lf_path (p ++ ones j)
  have m1 := mul_ones j (by omega)
  have c1 := cat_path p (ones j) (by rw [ones_len]; omega)
  have a1 := atP_n0 hx
  rw [List.append_assoc] at e0 l0 h1
  simp only [ptB, ptR, sSeq, sSet, eAdd, e2, eVar, eMulT, eTup, eArgs, eC, bindI, bindE, bindS, List.getElem?_cons_succ, List.getElem?_cons_zero, m1, c1, Option.map_some, asg, l1, if_true, List.set_cons_succ, List.set_cons_zero]
  simp [sXset, callR, argsD, argD, slotD, rowL, demE, dem1, rowS, eAdd, e2, eVar, eTup, eArgs, eC, bindI, bindE, bindS, eIx, dIx, a1, lx, e0, l0, h1, h2]
theorem te_none (gt : FR) (gi : FC) (gb gp : FR) (p : List Int) (ds : List PyData) : runRw 6 (b_tree_of gt gi gb gp) [enc .none, encP p] ds = some (.list [], ds) := by
  simp [runRw, b_tree_of, enc, sSeq, sSet, sIf, eIx, e2, eVar, eC, bindE, bindS, dIx, atP, ixP, asg, lf, eEq, eqSS, sRetL, eLst, eArgs, bindI, lfs]
theorem te_one (gt : FR) (gi : FC) (gb gp : FR) (p : List Int) (ds : List PyData) : runRw 6 (b_tree_of gt gi gb gp) [enc .one, encP p] ds = some (.tuple [], ds) := by
  simp [runRw, b_tree_of, enc, sSeq, sSet, sIf, eIx, e2, eVar, eC, bindE, bindS, dIx, atP, ixP, asg, lf, eEq, eqSS, w08, sNext, sRetL, eTup, eArgs, bindI, lfs]
theorem te_name (gt : FR) (gi : FC) (gb gp : FR) (i : Int) (p : List Int) (ds : List PyData) : runRw 6 (b_tree_of gt gi gb gp) [enc (.name i), encP p] ds = some (.tuple [.int i], ds) := by
  simp [runRw, b_tree_of, enc, sSeq, sSet, sIf, eIx, e2, eVar, eC, bindE, bindS, dIx, atP, ixP, asg, lf, eEq, eqSS, w09, w10, sNext, sRetL, eTup, eArgs, bindI, lfs]
theorem te_bar (gt : FR) (gi : FC) (gb gp : FR) (a b : Kd) (d : PyData) (p : List Int) (ds r : List PyData) (hi : gi [enc (.both a b)] = some (.ok (.bool true))) (h : gb [enc (.both a b), encP p] ds = some (d, r)) :
    runRw 6 (b_tree_of gt gi gb gp) [enc (.both a b), encP p] ds = some (d, r) := by
  have a0 : atP [PyData.str "both", enc a, enc b] 0 = some (.str "both") := rfl
  simp only [enc] at hi h
  simp [runRw, b_tree_of, enc, sSeq, sSet, sIf, eIx, e2, eVar, eC, bindE, bindS, dIx, a0, asg, lf, eEq, eqSS, w04, w05, w06, sNext, eCall, eArgs, bindI, hi, ofRC, sXret, callR, argsD, argD, slotD, rowL, h, isLent]
theorem te_pro (gt : FR) (gi : FC) (gb gp : FR) (a b : Kd) (d : PyData) (p : List Int) (ds r : List PyData) (hi : gi [enc (.both a b)] = some (.ok (.bool false))) (h : gp [enc (.both a b), encP p] ds = some (d, r)) :
    runRw 6 (b_tree_of gt gi gb gp) [enc (.both a b), encP p] ds = some (d, r) := by
  have a0 : atP [PyData.str "both", enc a, enc b] 0 = some (.str "both") := rfl
  simp only [enc] at hi h
  simp [runRw, b_tree_of, enc, sSeq, sSet, sIf, eIx, e2, eVar, eC, bindE, bindS, dIx, a0, asg, lf, eEq, eqSS, w04, w05, w06, sNext, eCall, eArgs, bindI, hi, ofRC, sXret, callR, argsD, argD, slotD, rowL, h, isLent]
section
variable (gt : FR) (gi : FC) (gb gp : FR) (a b : Kd) (t1 t2 : PyData) (p : List Int) (ds r1 r2 : List PyData) (hp : p.length ≤ 90000)
  (h1 : gt [enc a, encP (p ++ [0])] ds = some (t1, r1)) (h2 : gt [enc b, encP (p ++ [1])] r1 = some (t2, r2))
include hp h1 h2
theorem te_ei1 (q1 : dEq t1 (.list []) = some (.bool true)) (hb : r2.length < big) : runRw 6 (b_tree_of gt gi gb gp) [enc (.either a b), encP p] ds = some (t2, r2 ++ [encT "drop" p]) := by
  have lp := lf_path p
  have e0 := add_path p 0 hp
  have e1' := add_path p 1 hp
  have l0 := lf_path (p ++ [0])
  have l1 := lf_path (p ++ [1])
  have la := enc_lf a
  have lb' := enc_lf b
  have a0 : atP [PyData.str "either", enc a, enc b] 0 = some (.str "either") := rfl
  have a1 : atP [PyData.str "either", enc a, enc b] 1 = some (enc a) := rfl
  have a2 : atP [PyData.str "either", enc a, enc b] 2 = some (enc b) := rfl
  simp [runRw, b_tree_of, enc, sSeq, sSet, sIf, eIx, e2, eVar, eC, bindE, bindS, dIx, a0, a1, a2, asg, lf, lfs, eEq, eqSS, w01, w02, w03, w12, sNext, sXset, callR, argsD, argD, slotD, rowL, demE, dem1, rowS, eAdd, eTup, eArgs, bindI, e0, e1', l0, l1, la, lb', h1, h2, eLst, q1, sAppendT, lp, hb, sRetN, encT]
theorem te_ei2 (q1 : dEq t1 (.list []) = some (.bool false)) (q2 : dEq t2 (.list []) = some (.bool true)) (hb : r2.length < big) (hb2 : r2.length + 1 < big) : runRw 6 (b_tree_of gt gi gb gp) [enc (.either a b), encP p] ds = some (t1, r2 ++ [encT "swap" p, encT "drop" p]) := by
  have lp := lf_path p
  have e0 := add_path p 0 hp
  have e1' := add_path p 1 hp
  have l0 := lf_path (p ++ [0])
  have l1 := lf_path (p ++ [1])
  have la := enc_lf a
  have lb' := enc_lf b
  have a0 : atP [PyData.str "either", enc a, enc b] 0 = some (.str "either") := rfl
  have a1 : atP [PyData.str "either", enc a, enc b] 1 = some (enc a) := rfl
  have a2 : atP [PyData.str "either", enc a, enc b] 2 = some (enc b) := rfl
  simp [runRw, b_tree_of, enc, sSeq, sSet, sIf, eIx, e2, eVar, eC, bindE, bindS, dIx, a0, a1, a2, asg, lf, lfs, eEq, eqSS, w01, w02, w03, w12, sNext, sXset, callR, argsD, argD, slotD, rowL, demE, dem1, rowS, eAdd, eTup, eArgs, bindI, e0, e1', l0, l1, la, lb', h1, h2, eLst, q1, q2, sAppendT, lp, hb, hb2, sRetN, encT]
theorem te_ei3 (q1 : dEq t1 (.list []) = some (.bool false)) (q2 : dEq t2 (.list []) = some (.bool false)) : runRw 6 (b_tree_of gt gi gb gp) [enc (.either a b), encP p] ds = some (.list [t1, t2], r2) := by
  have lp := lf_path p
  have e0 := add_path p 0 hp
  have e1' := add_path p 1 hp
  have l0 := lf_path (p ++ [0])
  have l1 := lf_path (p ++ [1])
  have la := enc_lf a
  have lb' := enc_lf b
  have a0 : atP [PyData.str "either", enc a, enc b] 0 = some (.str "either") := rfl
  have a1 : atP [PyData.str "either", enc a, enc b] 1 = some (enc a) := rfl
  have a2 : atP [PyData.str "either", enc a, enc b] 2 = some (enc b) := rfl
  simp [runRw, b_tree_of, enc, sSeq, sSet, sIf, eIx, e2, eVar, eC, bindE, bindS, dIx, a0, a1, a2, asg, lf, lfs, eEq, eqSS, w01, w02, w03, w12, sNext, sXset, callR, argsD, argD, slotD, rowL, demE, dem1, rowS, eAdd, eTup, eArgs, bindI, e0, e1', l0, l1, la, lb', h1, h2, eLst, q1, q2, sRetP]
end
theorem ba_1 (gi : FC) (gt : FR) (a b : Kd) (t : PyData) (p : List Int) (ds r : List PyData) (hp : p.length ≤ 90000) (hi : gi [enc a] = some (.ok (.bool true))) (h : gt [enc a, encP (p ++ [0])] ds = some (t, r)) (hb : r.length < big) :
    runRw 3 (b_barren_tree gi gt) [enc (.both a b), encP p] ds = some (.list [], r ++ [encT "drop" p]) := by
  have lp := lf_path p
  have e0 := add_path p 0 hp
  have l0 := lf_path (p ++ [0])
  have la := enc_lf a
  have a1 : atP [PyData.str "both", enc a, enc b] 1 = some (enc a) := rfl
  simp [runRw, b_barren_tree, enc, sSeq, sIf, eCall, eArgs, eIx, e2, eVar, eC, bindE, bindI, bindS, dIx, a1, hi, ofRC, sXexpr, callR, argsD, argD, la, eAdd, eTup, e0, l0, rowL, h, demE, dem1, rowS, sAppendT, lf, lfs, lp, hb, sRetL, eLst, encT]
theorem ba_2 (gi : FC) (gt : FR) (a b : Kd) (t : PyData) (p : List Int) (ds r : List PyData) (hp : p.length ≤ 90000) (hi : gi [enc a] = some (.ok (.bool false))) (h : gt [enc b, encP (p ++ [1])] ds = some (t, r)) (hb : r.length + 1 < big) :
    runRw 3 (b_barren_tree gi gt) [enc (.both a b), encP p] ds = some (.list [], r ++ [encT "swap" p, encT "drop" p]) := by
  have lp := lf_path p
  have e0 := add_path p 1 hp
  have l0 := lf_path (p ++ [1])
  have la := enc_lf b
  have hb0 : r.length < big := by omega
  have a1 : atP [PyData.str "both", enc a, enc b] 1 = some (enc a) := rfl
  have a2 : atP [PyData.str "both", enc a, enc b] 2 = some (enc b) := rfl
  simp [runRw, b_barren_tree, enc, sSeq, sIf, eCall, eArgs, eIx, e2, eVar, eC, bindE, bindI, bindS, dIx, a1, a2, hi, ofRC, sXexpr, callR, argsD, argD, la, eAdd, eTup, e0, l0, rowL, h, demE, dem1, rowS, sAppendT, lf, lfs, lp, hb, hb0, sRetL, eLst, encT]
end KT
set_option Elab.async false
set_option linter.all false
set_option maxRecDepth 100000
namespace KT
open PySem PySem.Spec PyProof.Rows
/-! ### the tree of a kind -/
def TreeAt (n : Nat) (k : Kd) : Prop := ∀ (p : List Int) (ds : List PyData), p.length + k.leaves + 200 ≤ 70000 → ds.length + 1700 * k.leaves < big →
  ∃ (row : TRow) (T : Tr), m_tree_of n [enc k, encP p] ds = some (encTr T, ds ++ encW p row) ∧ goK k row = some (trK T) ∧ (Full T ∨ T = .nil) ∧ row.length + 1700 ≤ 1700 * k.leaves
theorem full_of {k : Kd} {row : TRow} {T : Tr} (h : goK k row = some (trK T)) (hT : Full T ∨ T = .nil) (hl : lb k ≠ []) : Full T := by
  rcases hT with h1 | h1
  · exact h1
  · subst h1
    have := go_lb row k _ h
    exact absurd this.symm hl
theorem nil_of {k : Kd} {row : TRow} {T : Tr} (h : goK k row = some (trK T)) (hT : Full T ∨ T = .nil) (hl : lb k = []) : T = .nil := by
  rcases hT with h1 | h1
  · have e := go_lb row k _ h
    have := nb_lb T h1
    have := nb_pos T h1
    rw [e, hl] at *
    simp at *
    omega
  · exact h1
/-- lines of factors -/
structure GoodL (l : List Kd) : Prop where
  s : sE (nest false id l) ≤ 40
  ne : lb (nest false id l) ≠ []
  b : (lb (nest false id l)).length ≤ 18
theorem two_le {a b : Nat} (ha : 1 ≤ a) (hb : 1 ≤ b) : a ≤ a * b ∧ b ≤ a * b ∧ a + b ≤ a * b + 1 := by
  obtain ⟨x, hx⟩ : ∃ x, a = x + 1 := ⟨a - 1, by omega⟩
  obtain ⟨y, hy⟩ : ∃ y, b = y + 1 := ⟨b - 1, by omega⟩
  subst hx hy
  rw [Nat.add_mul, Nat.mul_add]
  omega
theorem both_ne {a b : Kd} (h : lb (.both a b) ≠ []) : lb a ≠ [] ∧ lb b ≠ [] ∧ (lb (.both a b)).length = (lb a).length * (lb b).length := by
  have l : (lb (.both a b)).length = (lb a).length * (lb b).length := by simp only [lb, rsort_len, pairs_len]
  have h0 : (lb (.both a b)).length ≠ 0 := fun z => h (List.length_eq_zero_iff.mp z)
  refine ⟨fun z => h0 (by rw [l, z]; simp), fun z => h0 (by rw [l, z]; simp), l⟩
theorem sE_both (a b : Kd) : sE a ≤ sE (.both a b) ∧ sE b ≤ sE (.both a b) := by
  have pa := nE_pos a
  have pb := nE_pos b
  have h1 : sE a * 1 ≤ sE a * nE b := Nat.mul_le_mul_left _ pb
  have h2 : sE b * 1 ≤ sE b * nE a := Nat.mul_le_mul_left _ pa
  simp only [sE]
  omega
theorem good_both {a b : Kd} (s : sE (.both a b) ≤ 40) (ne : lb (.both a b) ≠ []) (hb : (lb (.both a b)).length ≤ 18) :
    (sE a ≤ 40 ∧ lb a ≠ [] ∧ (lb a).length ≤ 18) ∧ (sE b ≤ 40 ∧ lb b ≠ [] ∧ (lb b).length ≤ 18) := by
  obtain ⟨na, nb', l⟩ := both_ne ne
  have pa := List.length_pos_iff.mpr na
  have pb := List.length_pos_iff.mpr nb'
  have t := two_le pa pb
  have := sE_both a b
  exact ⟨⟨by omega, na, by omega⟩, ⟨by omega, nb', by omega⟩⟩
theorem good_cons {x : Kd} {l : List Kd} (h : GoodL (x :: l)) (hl : l ≠ []) : GoodL l ∧ (sE x ≤ 40 ∧ lb x ≠ [] ∧ (lb x).length ≤ 18) := by
  obtain ⟨s, ne, b⟩ := h
  rw [nest_cons false id x hl] at s ne b
  obtain ⟨h1, h2⟩ := good_both s ne b
  exact ⟨⟨h2.1, h2.2.1, h2.2.2⟩, h1⟩
theorem good_suf : ∀ (hd tl : List Kd), GoodL (hd ++ tl) → tl ≠ [] → GoodL tl
  | [], tl, h, _ => h
  | x :: hd, tl, h, hl => good_suf hd tl (good_cons (l := hd ++ tl) h (by simp [hl])).1 hl
theorem pro_step (n : Nat) (hn : 38 ≤ n) (x : Kd) (tl : List Kd) (hg : GoodL (x :: tl)) (ht : tl ≠ []) (hx : TreeAt n x) (p : List Int) (j : Nat) (hp : p.length + j + x.leaves + 201 ≤ 70000) (ds : List PyData) (row : TRow) (T : Tr) (hT : Full T)
    (hgo : goK (nest false id tl) row = some (trK T)) (hds : ds.length + row.length + 1700 * x.leaves < big) :
    ∃ (r1 rb : TRow) (T1 T2 : Tr), m_tree_of n [enc x, encP (p ++ ones j ++ [0])] (ds ++ encW (p ++ ones j ++ [1]) row) = some (encTr T1, ds ++ encW (p ++ ones j ++ [1]) row ++ encW (p ++ ones j ++ [0]) r1) ∧
      m_both_of_trees n [encTr T1, encTr T, encP (p ++ ones j)] (ds ++ encW (p ++ ones j ++ [1]) row ++ encW (p ++ ones j ++ [0]) r1) = some (encTr T2, ds ++ encW (p ++ ones j) (pre [1] row ++ pre [0] r1 ++ rb)) ∧ Full T2 ∧
      goK (nest false id (x :: tl)) (pre [1] row ++ pre [0] r1 ++ rb) = some (trK T2) ∧ r1.length + 1700 ≤ 1700 * x.leaves ∧ rb.length + 3 ≤ 1530 := by
  have hj : (p ++ ones j).length = p.length + j := by rw [List.length_append, ones_len]
  obtain ⟨_, gx⟩ := good_cons hg ht
  obtain ⟨r1, T1, a1, a2, a3, a4⟩ := hx (p ++ ones j ++ [0]) (ds ++ encW (p ++ ones j ++ [1]) row) (by simp only [List.length_append, ones_len, List.length_singleton]; omega) (by rw [List.length_append, encW_len]; omega)
  have f1 := full_of a2 a3 gx.2.1
  have hn1 : nest false id (x :: tl) = opK false x (nest false id tl) := nest_cons false id x ht
  have go2 : goK (nest false id (x :: tl)) (pre [1] row ++ pre [0] r1) = some (.both (trK T1) (trK T)) := by
    rw [hn1]
    exact go_seq (c := opK false x (trK T)) (go_R false hgo) (go_L false a2)
  have e2 := go_E _ _ _ go2
  have l2 := go_lb _ _ _ go2
  have hw : (trK T1).leaves + (trK T).leaves ≤ 40 := by
    have := sE_leaves (.both (trK T1) (trK T))
    have := hg.s
    simp only [Kd.leaves] at *
    omega
  have hf : nb T1 * nb T ≤ 18 := by
    have : (lb (.both (trK T1) (trK T))).length = nb T1 * nb T := by simp only [lb, rsort_len, pairs_len, nb_lb T1 f1, nb_lb T hT]
    rw [← this, l2]
    exact hg.b
  have tw := two_le (nb_pos T1 f1) (nb_pos T hT)
  obtain ⟨rb, T2, b1, b2, b3, b4⟩ := bot_ok (nb T1 + nb T) T1 T (Nat.le_refl _) f1 hT hw n (p ++ ones j) (ds ++ encW (p ++ ones j ++ [1]) row ++ encW (p ++ ones j ++ [0]) r1) (by omega) (by rw [hj]; omega) (by simp only [List.length_append, encW_len]; omega)
  refine ⟨r1, rb, T1, T2, a1, ?_, b3, ?_, a4, by omega⟩
  · rw [b1, encW_app, encW_app, encW_pre, encW_pre]
    simp only [List.append_assoc]
  · exact go_seq go2 b2
theorem pro_loop (n : Nat) (hn : 38 ≤ n) (fs : List Kd) (K : PyData) (p : List Int) (l : Int) (ds : List PyData) (hT : ∀ x ∈ fs, TreeAt n x) (hg : GoodL fs) (hp : p.length + lsum fs + 200 ≤ 70000) (hds : ds.length + 1700 * lsum fs + 160 < big + 160 * fs.length) :
    ∀ (j : Nat) (hd tl : List Kd) (row : TRow) (T : Tr) (x6 x7 x8 : Option Slot), hd.length = j → fs = hd ++ tl → tl ≠ [] → Full T → goK (nest false id tl) row = some (trK T) → row.length + 1700 * tl.length + 1530 ≤ 1700 * lsum tl + 1530 * tl.length →
      ∃ (row' : TRow) (T' : Tr) (y6 y7 y8 : Option Slot), forGo (tgName 6) (ptB (m_both_of_trees n) (m_tree_of n)) (downFrom j) (ptR K (encP p) (ds ++ encW (p ++ ones j) row) (fs.map enc) l (encTr T) x6 x7 x8) = some (.next (ptR K (encP p) (ds ++ encW p row') (fs.map enc) l (encTr T') y6 y7 y8)) ∧
        Full T' ∧ goK (nest false id fs) row' = some (trK T') ∧ row'.length + 1700 * fs.length + 1530 ≤ 1700 * lsum fs + 1530 * fs.length
  | 0, hd, tl, row, T, x6, x7, x8, hj, hfs, ht, hF, hgo, hr => by
    have : hd = [] := List.length_eq_zero_iff.mp hj
    subst this
    rw [List.nil_append] at hfs
    subst hfs
    exact ⟨row, T, x6, x7, x8, by rw [show ones 0 = [] from rfl, List.append_nil]; rfl, hF, hgo, hr⟩
  | j + 1, hd, tl, row, T, x6, x7, x8, hj, hfs, ht, hF, hgo, hr => by
    obtain ⟨hd', x, rfl⟩ : ∃ hd' x, hd = hd' ++ [x] := ⟨hd.dropLast, hd.getLast (by intro z; rw [z] at hj; cases hj), (List.dropLast_concat_getLast _).symm⟩
    have hj' : hd'.length = j := by simpa using hj
    have hfs' : fs = hd' ++ (x :: tl) := by rw [hfs]; simp
    have gx : GoodL (x :: tl) := good_suf hd' (x :: tl) (hfs' ▸ hg) (by simp)
    have hmem : x ∈ fs := by rw [hfs']; simp
    have hls : lsum fs = lsum hd' + (x.leaves + lsum tl) := by rw [hfs', lsum_app]; rfl
    have hlen : fs.length = j + (1 + tl.length) := by rw [hfs', List.length_append, hj', List.length_cons]; omega
    have hdl := lsum_len hd'
    have tll := lsum_len tl
    have xp := x.pos
    have tp : 1 ≤ tl.length := List.length_pos_iff.mpr ht
    obtain ⟨r1, rb, T1, T2, a1, a2, a3, a4, a5, a6⟩ := pro_step n hn x tl gx ht (hT x hmem) p j (by omega) ds row T hF hgo (by omega)
    obtain ⟨row', T', y6, y7, y8, b1, b2, b3, b4⟩ := pro_loop n hn fs K p l ds hT hg hp hds j hd' (x :: tl) (pre [1] row ++ pre [0] r1 ++ rb) T2 (some (.loc (.int (j : Int)))) (some (.loc (encP (p ++ ones j)))) (some (.par (encTr T1))) hj' hfs' (by simp) a3 a4 (by simp only [List.length_append, pre_len, List.length_cons, lsum]; omega)
    refine ⟨row', T', y6, y7, y8, ?_, b2, b3, b4⟩
    have hget : (fs.map enc)[j]? = some (enc x) := by rw [hfs', List.map_append, List.map_cons, List.getElem?_append_right (by rw [List.length_map, hj']; exact Nat.le_refl _), List.length_map, hj', Nat.sub_self]; rfl
    have body := pt_body (m_both_of_trees n) (m_tree_of n) K (encTr T) (enc x) (encTr T1) (encTr T2) p (ds ++ encW (p ++ ones j ++ [1]) row) _ _ (fs.map enc) l j x7 x8 (by omega) hget (enc_lf x) a1 a2
    rw [down_suc0, ← b1]
    rw [show p ++ ones (j + 1) = p ++ ones j ++ [1] by rw [ones_succ, List.append_assoc]]
    exact for_next rfl body
theorem pt_run (gb gt gf : FR) (K T T' x : PyData) (p : List Int) (ds r1 r2 r3 FS : List PyData) (m : Nat) (y6 y7 y8 : Option Slot) (hm : FS.length = m + 1) (h60 : p.length + m ≤ 80000) (hf : gf [K, encP p] ds = some (.list FS, r1)) (hx : FS[m]? = some x) (lx : lf x = true)
    (h1 : gt [x, encP (p ++ ones m)] r1 = some (T, r2)) (hl : forGo (tgName 6) (ptB gb gt) (downFrom m) (ptR K (encP p) r2 FS (m : Int) T none none none) = some (.next (ptR K (encP p) r3 FS (m : Int) T' y6 y7 y8))) :
    runRw 9 (b_product_tree gb gt gf) [K, encP p] ds = some (T', r3) := by
  have m1 := mul_ones m (by omega)
  have c1 := cat_path p (ones m) (by rw [ones_len]; omega)
  have l1 := lf_path (p ++ ones m)
  have a1 := atP_n0 hx
  have e : b_product_tree gb gt gf = (sSeq (sXset 3 gf [.n 0, .n 1] 2) (sSeq (sSet 4 (eSub (eLen (eVar 3)) (eC (.int 1)))) (sSeq (sXset 5 gt [.f (eIx (eVar 3) (eVar 4)), .f (eAdd (eVar 1) (eMulT (eTup [(eC (.int 1))]) (eVar 4)))] 2) (sSeq (sFor (iDown (eSub (eVar 4) (eC (.int 1)))) (tgName 6) (ptB gb gt)) (sRetN 2 5))))) := rfl
  have hlast : dSub (.int (FS.length : Int)) (.int 1) = some (.int (m : Int)) := by rw [subII, hm]; congr 2; omega
  have s1 : sXset 3 gf [.n 0, .n 1] 2 [some (.par K), some (.par (encP p)), some (.lent ds), none, none, none, none, none, none] = some (.next [some (.par K), some (.par (encP p)), some (.lent r1), some (.par (.list FS)), none, none, none, none, none]) := by
    simp [sXset, callR, argsD, argD, slotD, rowL, hf, demE, dem1, rowS]
  have s2 : sSet 4 (eSub (eLen (eVar 3)) (eC (.int 1))) [some (.par K), some (.par (encP p)), some (.lent r1), some (.par (.list FS)), none, none, none, none, none] = some (.next [some (.par K), some (.par (encP p)), some (.lent r1), some (.par (.list FS)), some (.loc (.int (m : Int))), none, none, none, none]) := by
    simp [sSet, eSub, e2, eLen, e1, eVar, eC, bindE, bindS, dLen, hlast, asg, lf]
  have s3 : sXset 5 gt [.f (eIx (eVar 3) (eVar 4)), .f (eAdd (eVar 1) (eMulT (eTup [(eC (.int 1))]) (eVar 4)))] 2 [some (.par K), some (.par (encP p)), some (.lent r1), some (.par (.list FS)), some (.loc (.int (m : Int))), none, none, none, none] = some (.next (ptR K (encP p) r2 FS (m : Int) T none none none)) := by
    have q1 : (eIx (eVar 3) (eVar 4)) [some (.par K), some (.par (encP p)), some (.lent r1), some (.par (.list FS)), some (.loc (.int (m : Int))), none, none, none, none] = some (.ok 0 x) := by
      simp [eIx, e2, eVar, bindE, dIx, a1]
    have q2 : (eAdd (eVar 1) (eMulT (eTup [(eC (.int 1))]) (eVar 4))) [some (.par K), some (.par (encP p)), some (.lent r1), some (.par (.list FS)), some (.loc (.int (m : Int))), none, none, none, none] = some (.ok 2 (encP (p ++ ones m))) := by
      simp [eAdd, eMulT, e2, eVar, eTup, eArgs, eC, bindI, bindE, m1, c1]
    simp [sXset, callR, argsD, argD, slotD, rowL, q1, q2, lx, l1, h1, demE, dem1, rowS, ptR]
  have s4 : sFor (iDown (eSub (eVar 4) (eC (.int 1)))) (tgName 6) (ptB gb gt) (ptR K (encP p) r2 FS (m : Int) T none none none) = some (.next (ptR K (encP p) r3 FS (m : Int) T' y6 y7 y8)) := by
    have q : (iDown (eSub (eVar 4) (eC (.int 1)))) (ptR K (encP p) r2 FS (m : Int) T none none none) = some (.ok 2 (downFrom m)) := by
      have hb : ((m : Int) - 1).natAbs ≤ big := by
        have : (80001 : Nat) ≤ big := by decide
        omega
      have hz : ((m : Int) - 1 + 1).toNat = m := by omega
      simp only [iDown, eSub, e2, eVar, eC, ptR, bindE, List.getElem?_cons_succ, List.getElem?_cons_zero, subII, Option.map_some, hb, if_true, hz]
    unfold sFor
    rw [q]
    exact hl
  have s5 : sRetN 2 5 (ptR K (encP p) r3 FS (m : Int) T' y6 y7 y8) = some (.retL T' r3) := by simp [sRetN, ptR, slotD]
  unfold runRw
  show (match b_product_tree gb gt gf [some (.par K), some (.par (encP p)), some (.lent ds), none, none, none, none, none, none] with | some (.retL d ds') => some (d, ds') | _ => none) = _
  rw [e, seq_next s1, seq_next s2, seq_next s3, seq_next s4, s5]
theorem tree_nil (T : Tr) : dEq (encTr T) (.list []) = some (.bool (match T with | .nil => true | _ => false)) := by
  cases T with
  | nil => exact eq_nil
  | bun l => exact eq_rowL l
  | nod a b => exact eq_list2 _ _ (tr_lay (.nod a b))
theorem tree_ok : ∀ (N : Nat) (k : Kd), k.leaves ≤ N → sE k ≤ 40 → (lb k).length ≤ 18 → ∀ n, 2 * k.leaves + 40 ≤ n → TreeAt n k
  | 0, k, h, _, _, _, _ => by have := k.pos; omega
  | N + 1, k, hN, hs, hb, n, hn => by
    intro p ds hp hds
    obtain ⟨m, rfl⟩ : ∃ m, n = m + 1 := ⟨n - 1, by omega⟩
    have unf : m_tree_of (m + 1) = runRw 6 (b_tree_of (m_tree_of m) (m_is_barren m) (m_barren_tree m) (m_product_tree m)) := rfl
    cases k with
    | none => exact ⟨[], .nil, by rw [unf, te_none]; simp [encTr, encW], rfl, .inr rfl, by simp [Kd.leaves]⟩
    | one => exact ⟨[], .bun [], by rw [unf, te_one]; simp [encTr, encW, rowD], rfl, .inl .nil, by simp [Kd.leaves]⟩
    | name i => exact ⟨[], .bun [i], by rw [unf, te_name]; simp [encTr, encW, rowD], rfl, .inl (List.pairwise_singleton _ _), by simp [Kd.leaves]⟩
    | either a b =>
      have pa := a.pos
      have pb := b.pos
      simp only [Kd.leaves, sE, lb, rsort_len, List.length_append] at hN hs hb hn hp hds ⊢
      obtain ⟨r1, T1, a1, a2, a3, a4⟩ := tree_ok N a (by omega) (by omega) (by omega) m (by omega) (p ++ [0]) ds (by simp only [List.length_append, List.length_singleton]; omega) (by omega)
      obtain ⟨r2, T2, b1, b2, b3, b4⟩ := tree_ok N b (by omega) (by omega) (by omega) m (by omega) (p ++ [1]) (ds ++ encW (p ++ [0]) r1) (by simp only [List.length_append, List.length_singleton]; omega) (by rw [List.length_append, encW_len]; omega)
      have hlen : (ds ++ encW (p ++ [0]) r1 ++ encW (p ++ [1]) r2).length = ds.length + r1.length + r2.length := by simp only [List.length_append, encW_len]
      have go : goK (.either a b) (pre [0] r1 ++ pre [1] r2) = some (.either (trK T1) (trK T2)) := go_seq (c := opK true (trK T1) b) (go_L true a2) (go_R true b2)
      have hw : ds ++ encW p (pre [0] r1 ++ pre [1] r2) = ds ++ encW (p ++ [0]) r1 ++ encW (p ++ [1]) r2 := by rw [encW_app, encW_pre, encW_pre, List.append_assoc]
      have q1 := tree_nil T1
      have q2 := tree_nil T2
      rcases a3 with f1 | f1
      · have q1 : dEq (encTr T1) (.list []) = some (.bool false) := by cases T1 <;> first | exact f1.elim | exact q1
        rcases b3 with f2 | f2
        · have q2 : dEq (encTr T2) (.list []) = some (.bool false) := by cases T2 <;> first | exact f2.elim | exact q2
          refine ⟨pre [0] r1 ++ pre [1] r2, .nod T1 T2, ?_, go, .inl ⟨f1, f2⟩, by simp only [List.length_append, pre_len]; omega⟩
          rw [unf, hw]
          exact te_ei3 _ _ _ _ a b _ _ p ds _ _ (by omega) a1 b1 q1 q2
        · subst f2
          refine ⟨pre [0] r1 ++ pre [1] r2 ++ ([("swap", []), ("drop", [])] : TRow), T1, ?_, ?_, .inl f1, by simp only [List.length_append, pre_len, List.length_cons, List.length_nil]; omega⟩
          · rw [unf, encW_app, ← List.append_assoc, hw, encW_cons, encW_cons, List.append_nil]
            exact te_ei2 _ _ _ _ a b _ _ p ds _ _ (by omega) a1 b1 q1 q2 (by rw [hlen]; omega) (by rw [hlen]; omega)
          · refine go_seq go ?_
            show goK _ (([("swap", [])] : TRow) ++ ([("drop", [])] : TRow)) = _
            exact go_seq (go_here (go_swap true _ _)) (go_here (go_drop true _))
      · subst f1
        refine ⟨pre [0] r1 ++ pre [1] r2 ++ ([("drop", [])] : TRow), T2, ?_, go_seq go (go_here (go_drop true _)), b3, by simp only [List.length_append, pre_len, List.length_cons, List.length_nil]; omega⟩
        rw [unf, encW_app, ← List.append_assoc, hw, encW_cons, List.append_nil]
        exact te_ei1 _ _ _ _ a b _ _ p ds _ _ (by omega) a1 b1 q1 (by rw [hlen]; omega)
    | both a b =>
      have pa := a.pos
      have pb := b.pos
      have hsb := sE_both a b
      have bar := barren_ok (.both a b) m (by omega)
      obtain ⟨m, rfl⟩ : ∃ k, m = k + 1 := ⟨m - 1, by omega⟩
      cases hbr : brn (.both a b) with
      | true =>
        rw [hbr] at bar
        simp only [Kd.leaves] at hN hn hp hds ⊢
        have ub : m_barren_tree (m + 1) = runRw 3 (b_barren_tree (m_is_barren m) (m_tree_of m)) := rfl
        have ba := barren_ok a m (by omega)
        cases hba : brn a with
        | true =>
          rw [hba] at ba
          have l0 := lb_brn a hba
          obtain ⟨r1, T1, a1, a2, a3, a4⟩ := tree_ok N a (by omega) (by omega) (by rw [l0]; decide) m (by omega) (p ++ [0]) ds (by simp only [List.length_append, List.length_singleton]; omega) (by omega)
          have := nil_of a2 a3 l0
          subst this
          refine ⟨pre [0] r1 ++ ([("drop", [])] : TRow), .nil, ?_, ?_, .inr rfl, by simp only [List.length_append, pre_len, List.length_cons, List.length_nil]; omega⟩
          · rw [unf]
            refine te_bar _ _ _ _ a b _ p ds _ bar ?_
            rw [ub, encW_app, encW_pre, encW_cons, List.append_nil, ← List.append_assoc]
            exact ba_1 _ _ a b _ p ds _ (by omega) ba a1 (by rw [List.length_append, encW_len]; omega)
          · exact go_seq (c := .both .none b) (go_L false a2) (go_here (by rw [here_drop]; rfl))
        | false =>
          rw [hba] at ba
          have hbb : brn b = true := by simpa [brn, hba] using hbr
          have l0 := lb_brn b hbb
          obtain ⟨r1, T1, a1, a2, a3, a4⟩ := tree_ok N b (by omega) (by omega) (by rw [l0]; decide) m (by omega) (p ++ [1]) ds (by simp only [List.length_append, List.length_singleton]; omega) (by omega)
          have := nil_of a2 a3 l0
          subst this
          refine ⟨pre [1] r1 ++ ([("swap", []), ("drop", [])] : TRow), .nil, ?_, ?_, .inr rfl, by simp only [List.length_append, pre_len, List.length_cons, List.length_nil]; omega⟩
          · rw [unf]
            refine te_bar _ _ _ _ a b _ p ds _ bar ?_
            rw [ub, encW_app, encW_pre, encW_cons, encW_cons, List.append_nil, ← List.append_assoc]
            exact ba_2 _ _ a b _ p ds _ (by omega) ba a1 (by rw [List.length_append, encW_len]; omega)
          · refine go_seq (c := .both a .none) (go_R false a2) ?_
            show goK _ (([("swap", [])] : TRow) ++ ([("drop", [])] : TRow)) = _
            exact go_seq (go_here (go_swap false a .none)) (go_here (by rw [here_drop]; rfl))
      | false =>
        rw [hbr] at bar
        have ne := brn_lb _ hbr
        have up : m_product_tree (m + 1) = runRw 9 (b_product_tree (m_both_of_trees m) (m_tree_of m) (m_factors_in_line m)) := rfl
        have hL : (Kd.both a b).leaves ≤ 40 := Nat.le_trans (sE_leaves _) hs
        have h2 : 2 ≤ nf (.both a b) := by have := nf_pos a; have := nf_pos b; simp only [nf]; omega
        have hnl := nf_leaves (.both a b)
        have hsq : nf (.both a b) * nf (.both a b) ≤ 40 * nf (.both a b) := Nat.mul_le_mul_right _ (by omega)
        obtain ⟨rf, fs, f1, f2, f3, f4, f5⟩ := fac_ok (.both a b) m p ds (by omega) (by omega) (by omega) (by omega)
        generalize hk : Kd.both a b = k at *
        have hg : GoodL fs := ⟨Nat.le_trans (go_E _ _ _ f2) hs, by rw [go_lb _ _ _ f2]; exact ne, by rw [go_lb _ _ _ f2]; exact hb⟩
        have hfl : rf.length ≤ 160 * (fs.length - 1) := by
          rw [f3]
          have : 4 * (nf k * nf k) ≤ 160 * nf k := by omega
          have hq : nf k * nf k = nf k + nf k * (nf k - 1) := by
            obtain ⟨z, hz⟩ : ∃ z, nf k = z + 1 := ⟨nf k - 1, by omega⟩
            rw [hz, Nat.add_sub_cancel, Nat.mul_add]; omega
          have hq2 : nf k * (nf k - 1) ≤ 40 * (nf k - 1) := Nat.mul_le_mul_right _ (by omega)
          omega
        obtain ⟨hd, x, hfs⟩ : ∃ hd x, fs = hd ++ [x] := ⟨fs.dropLast, fs.getLast (by intro z; rw [z] at f3; simp at f3; omega), (List.dropLast_concat_getLast _).symm⟩
        have hlh : hd.length + 1 = fs.length := by rw [hfs]; simp
        have hls : lsum fs = lsum hd + x.leaves := by rw [hfs, lsum_app]; simp [lsum]
        have hdl := lsum_len hd
        have gx : GoodL [x] := good_suf hd [x] (hfs ▸ hg) (by simp)
        have each : ∀ y ∈ fs, TreeAt m y := fun y hy => by
          have hlt : y.leaves < k.leaves := by
            rw [← f4]
            obtain ⟨s, t, hst⟩ := List.append_of_mem hy
            rw [hst] at f3 ⊢
            rw [lsum_app]
            have := lsum_len s
            have := lsum_len t
            simp only [List.length_append, List.length_cons, lsum] at *
            omega
          have good : sE y ≤ 40 ∧ (lb y).length ≤ 18 := by
            obtain ⟨s, t, hst⟩ := List.append_of_mem hy
            have g2 : GoodL (y :: t) := good_suf s (y :: t) (hst ▸ hg) (by simp)
            by_cases ht : t = []
            · subst ht; exact ⟨g2.s, g2.b⟩
            · have := (good_cons g2 ht).2; exact ⟨this.1, this.2.2⟩
          exact tree_ok N y (by omega) good.1 good.2 m (by omega)
        obtain ⟨r1, T1, a1, a2, a3, a4⟩ := each x (by rw [hfs]; simp) (p ++ ones hd.length) (ds ++ encW p rf) (by rw [List.length_append, ones_len]; omega) (by rw [List.length_append, encW_len]; omega)
        have ft := full_of a2 a3 gx.ne
        obtain ⟨row', T', y6, y7, y8, b1, b2, b3, b4⟩ := pro_loop m (by omega) fs (enc k) p (hd.length : Int) (ds ++ encW p rf) each hg (by omega) (by rw [List.length_append, encW_len]; omega) hd.length hd [x] r1 T1 none none none rfl hfs (by simp) ft a2 (by simp only [List.length_singleton, lsum]; omega)
        refine ⟨rf ++ row', T', ?_, go_seq f2 b3, .inl b2, by rw [List.length_append]; omega⟩
        rw [unf]
        subst hk
        refine te_pro _ _ _ _ a b _ p ds _ bar ?_
        rw [up, encW_app, ← List.append_assoc]
        exact pt_run _ _ _ _ _ _ (enc x) p ds _ _ _ _ hd.length y6 y7 y8 (by rw [List.length_map]; omega) (by omega) f1 (by rw [hfs, List.map_append, List.getElem?_append_right (by simp)]; simp) (enc_lf x) a1 b1
end KT
set_option Elab.async false
set_option linter.all false
set_option maxRecDepth 100000
namespace KT
open PySem PySem.Spec PyProof.Rows
/-! ### row_to_plain -/
theorem rp_run (gi gt : FR) (k t L : PyData) (r1 r2 : List PyData) (h1 : gt [k, encP []] [] = some (t, r1)) (h2 : gi [t, encP []] r1 = some (L, r2)) : runB 3 (b_row_to_plain gi gt) [k] = some (.ok (.list r2)) := by
  have lp : lf (.tuple []) = true := rfl
  have h1' : gt [k, .tuple []] [] = some (t, r1) := h1
  have h2' : gi [t, .tuple []] r1 = some (L, r2) := h2
  simp [runB, b_row_to_plain, sSeq, sSet, eLst, eArgs, bindI, bindS, lfs, lf, asg, sXset, callR, argsD, argD, slotD, eTup, rowL, h1', demE, dem1, rowS, sXexpr, h2', sRet, eVar]
/-- the row of a kind leads to the plain kind of its bundles -/
theorem row_to_plain_ok (k : Kd) (n : Nat) (hs : sE k ≤ 40) (hb : (lb k).length ≤ 18) (hn : 2 * k.leaves + 42 ≤ n) :
    ∃ row : TRow, m_row_to_plain n [enc k] = some (.ok (.list (encW [] row))) ∧ goK k row = some (pk (lb k)) ∧ row.length ≤ 70000 := by
  obtain ⟨m, rfl⟩ : ∃ m, n = m + 1 := ⟨n - 1, by omega⟩
  have hL : k.leaves ≤ 40 := Nat.le_trans (sE_leaves k) hs
  have big0 : big = 100000 := rfl
  obtain ⟨r1, T, a1, a2, a3, a4⟩ := tree_ok k.leaves k (Nat.le_refl _) hs hb m (by omega) [] [] (by simp only [List.length_nil]; omega) (by simp only [List.length_nil]; omega)
  have hnb : nb T ≤ 18 := by
    rcases a3 with h | h
    · rw [← nb_lb T h, go_lb _ _ _ a2]; exact hb
    · subst h; decide
  have hsq : nb T * nb T ≤ 18 * 18 := Nat.mul_le_mul hnb hnb
  obtain ⟨r2, L, b1, b2, b3, b4, b5, b6⟩ := in_line_ok T m [] (encW [] r1) a3 (by omega) (by omega) (by rw [encW_len]; omega) (by simp only [List.length_nil]; omega)
  have go := go_seq a2 b2
  refine ⟨r1 ++ r2, ?_, ?_, by rw [List.length_append]; omega⟩
  · rw [show m_row_to_plain (m + 1) = runB 3 (b_row_to_plain (m_in_line m) (m_tree_of m)) from rfl, encW_app]
    exact rp_run _ _ _ _ _ _ _ (by rw [a1]; rfl) b1
  · rw [go]
    have e := go_lb _ _ _ go
    rw [lb_pk L b4] at e
    have : gsort lexL L = L := by
      rw [show (lexL : List Int → List Int → Bool) = HT.lexLt from funext fun a => funext fun b => lexL_eq a b]
      exact (gsort_uniq (O := rowOrd) (.refl L) b3).symm
    rw [this] at e
    rw [e]
end KT
set_option Elab.async false
set_option linter.all false
set_option maxRecDepth 100000
namespace KT
open PySem
/-! ### the turned kind, put together -/
def optD : Option Kd → PyData
  | some k => enc k
  | none => .none
theorem len_inn {k : Kd} (h : inn k = true) : dLen (enc k) = some (.int 3) := by cases k <;> first | rfl | cases h
theorem len_leaf {k : Kd} (h : inn k = false) : ∃ m : Int, dLen (enc k) = some (.int m) ∧ decide (m < 3) = true := by cases k <;> first | exact ⟨_, rfl, rfl⟩ | cases h
theorem lt_ii (i j : Int) : dLt (.int i) (.int j) = some (.bool (decide (i < j))) := rfl
theorem pair_in (x y : Str) (hx : PyData.strOk x = true) (hy : PyData.strOk y = true) : dIn (.tuple [.str x, .str y]) (.tuple [.tuple [.str "both", .str "one"], .tuple [.str "either", .str "none"]]) =
    some (.bool ((("both" : Str) == x && ("one" : Str) == y) || (("either" : Str) == x && ("none" : Str) == y))) := by
  have h1 : inOk (.tuple [.str x, .str y]) [.tuple [.str "both", .str "one"], .tuple [.str "either", .str "none"]] = true := by
    simp [inOk, PyData.canLay0, PyData.canLayAll0, hx, hy, ok_both, ok_one, ok_either, ok_none, PyData.depth, PyData.depthAll]
  simp [dIn, dInB, h1, PyData.eqv, PyData.eqvAll]
theorem wz1 : (("none" : Str) == "name") = false := by decide +kernel
theorem wz2 : (("one" : Str) == "name") = false := by decide +kernel
def restH : FS := (sSeq (sIf (eEq (eVar 1) (eC (.str "swap"))) (sRet (eTup [(eIx (eVar 0) (eC (.int 0))), (eVar 3), (eVar 2)])) sNext) (sSeq (sIf (eAnd (eEq (eVar 1) (eC (.str "group"))) (eEq (eIx (eVar 2) (eC (.int 0))) (eIx (eVar 0) (eC (.int 0))))) (sRet (eTup [(eIx (eVar 0) (eC (.int 0))), (eIx (eVar 2) (eC (.int 1))), (eTup [(eIx (eVar 0) (eC (.int 0))), (eIx (eVar 2) (eC (.int 2))), (eVar 3)])])) sNext) (sSeq (sIf (eAnd (eEq (eVar 1) (eC (.str "spread"))) (eAnd (eEq (eIx (eVar 0) (eC (.int 0))) (eC (.str "both"))) (eEq (eIx (eVar 3) (eC (.int 0))) (eC (.str "either"))))) (sRet (eTup [(eC (.str "either")), (eTup [(eC (.str "both")), (eVar 2), (eIx (eVar 3) (eC (.int 1)))]), (eTup [(eC (.str "both")), (eVar 2), (eIx (eVar 3) (eC (.int 2)))])])) sNext) (sSeq (sIf (eAnd (eEq (eVar 1) (eC (.str "drop"))) (eAnd (eEq (eIx (eVar 0) (eC (.int 0))) (eC (.str "both"))) (eEq (eIx (eVar 2) (eC (.int 0))) (eC (.str "none"))))) (sRet (eTup [(eC (.str "none"))])) sNext) (sSeq (sIf (eAnd (eEq (eVar 1) (eC (.str "drop"))) (eIn (eTup [(eIx (eVar 0) (eC (.int 0))), (eIx (eVar 2) (eC (.int 0)))]) (eTup [(eTup [(eC (.str "both")), (eC (.str "one"))]), (eTup [(eC (.str "either")), (eC (.str "none"))])]))) (sRet (eVar 3)) sNext) (sRet (eC .none)))))))
theorem lhere_ok (n : Nat) (w : Str) (k : Kd) : m_law_here (n + 1) [enc k, .str w] = some (.ok (optD (hereK w k))) := by
  show runB 4 b_law_here [enc k, .str w] = _
  cases hi : inn k with
  | false =>
    obtain ⟨m, e1', e2'⟩ := len_leaf hi
    rw [here_leaf w k hi]
    have e2'' : m < 3 := of_decide_eq_true e2'
    refine run_ret (b := b_law_here) ?_
    unfold b_law_here
    refine (if_retT (l := 2) ?_).trans rfl
    simp [eLt, e2, eLen, e1, eVar, eC, bindE, e1', lt_ii, e2'']
  | true =>
    obtain ⟨a, b, e, hk⟩ : ∃ a b, enc k = .tuple [.str (hd k), enc a, enc b] ∧ (k = .either a b ∨ k = .both a b) := by
      cases k with
      | either a b => exact ⟨a, b, rfl, .inl rfl⟩
      | both a b => exact ⟨a, b, rfl, .inr rfl⟩
      | none => cases hi
      | one => cases hi
      | name _ => cases hi
    have start : restH [some (.par (enc k)), some (.par (.str w)), some (.loc (enc a)), some (.loc (enc b))] = some (.ret (optD (hereK w k))) → runB 4 b_law_here [enc k, .str w] = some (.ok (optD (hereK w k))) := fun h => by
      have el := len_inn hi
      refine run_ret (b := b_law_here) ?_
      have eb : b_law_here = sSeq (sIf (eLt (eLen (eVar 0)) (eC (.int 3))) (sRet (eC .none)) sNext) (sSeq (sSet 2 (eIx (eVar 0) (eC (.int 1)))) (sSeq (sSet 3 (eIx (eVar 0) (eC (.int 2)))) restH)) := rfl
      rw [eb]
      refine (if_retF (l := 2) ?_).trans (Eq.trans ?_ h)
      · simp [eLt, e2, eLen, e1, eVar, eC, bindE, el, lt_ii]
      · generalize restH = RH
        have e1' : dIx (enc k) (.int 1) = some (enc a) := by rw [e]; exact at_1 _ _ _
        have e2' : dIx (enc k) (.int 2) = some (enc b) := by rw [e]; exact at_2 _ _ _ _
        simp [sSeq, sSet, eIx, e2, eVar, eC, bindE, bindS, e1', e2', asg_lf, enc_lf]
    refine start ?_
    have v0 : eVar 0 [some (.par (enc k)), some (.par (.str w)), some (.loc (enc a)), some (.loc (enc b))] = some (.ok 0 (enc k)) := rfl
    have v1 : eVar 1 [some (.par (enc k)), some (.par (.str w)), some (.loc (enc a)), some (.loc (enc b))] = some (.ok 0 (.str w)) := rfl
    have v2 : eVar 2 [some (.par (enc k)), some (.par (.str w)), some (.loc (enc a)), some (.loc (enc b))] = some (.ok 1 (enc a)) := rfl
    have v3 : eVar 3 [some (.par (enc k)), some (.par (.str w)), some (.loc (enc a)), some (.loc (enc b))] = some (.ok 1 (enc b)) := rfl
    generalize [some (Slot.par (enc k)), some (.par (.str w)), some (.loc (enc a)), some (.loc (enc b))] = R at v0 v1 v2 v3
    have vC : ∀ s : Str, eC (.str s) R = some (.ok 2 (.str s)) := fun s => rfl
    have k0 := ixT v0 (i := 0) (enc_hd k)
    have a0 := ixT v2 (i := 0) (enc_hd a)
    have b0 := ixT v3 (i := 0) (enc_hd b)
    have hp := pair_in (hd k) (hd a) (hd_ok k) (hd_ok a)
    have iR : ∀ r : Bool, ((("both" : Str) == hd k && ("one" : Str) == hd a) || (("either" : Str) == hd k && ("none" : Str) == hd a)) = r → eIn (eTup [(eIx (eVar 0) (eC (.int 0))), (eIx (eVar 2) (eC (.int 0)))]) (eTup [(eTup [(eC (.str "both")), (eC (.str "one"))]), (eTup [(eC (.str "either")), (eC (.str "none"))])]) R = some (.ok 2 (.bool r)) := fun r h => by
      rw [h] at hp
      simp only [eIn, e2, eTup, eArgs, k0, a0, eC, bindI, bindE, hp, Option.map, if_true]
    unfold restH
    rcases word5 w with rfl | rfl | rfl | rfl | ⟨h1, h2, h3, h4⟩
    · rw [if_retT (eqT v1 (vC _) (by simp)), here_swap]
      refine (retT (tup3 k0 v3 v2) ?_).trans ?_
      · simp [lf, lfs, enc_lf]
      · rcases hk with rfl | rfl <;> rfl
    · rw [if_retF (eqT v1 (vC _) v04), here_group]
      cases hg : groupK k with
      | some k' =>
        unfold groupK at hg
        have gw := eqT v1 (vC _) (beq_self_eq_true ("group" : Str))
        split at hg
        · rcases hk with hk | hk <;> cases hk
          cases hg
          rw [if_retT ((andT gw).trans (eqT a0 k0 (by simp [hd])))]
          exact retT (tup3 k0 (ixT v2 (at_1 _ _ _)) (tup3 k0 (ixT v2 (at_2 _ _ _ _)) v3)) (enc_lf _)
        · rcases hk with hk | hk <;> cases hk
          cases hg
          rw [if_retT ((andT gw).trans (eqT a0 k0 (by simp [hd])))]
          exact retT (tup3 k0 (ixT v2 (at_1 _ _ _)) (tup3 k0 (ixT v2 (at_2 _ _ _ _)) v3)) (enc_lf _)
        · cases hg
      | none =>
        have hh : (hd a == hd k) = false := by
          rcases hk with rfl | rfl <;> cases a <;> simp only [hd, w13, w15, w17, w07, w14, w16, w18, w12] <;> simp [groupK] at hg
        rw [if_retF ((andT (eqT v1 (vC _) (beq_self_eq_true ("group" : Str)))).trans (eqT a0 k0 hh)), if_retF (andF (eqT v1 (vC _) v05)), if_retF (andF (eqT v1 (vC _) v06)), if_retF (andF (eqT v1 (vC _) v06))]
        rfl
    · rw [if_retF (eqT v1 (vC _) v07), if_retF (andF (eqT v1 (vC _) v08)), here_spread]
      have gw := eqT v1 (vC _) (beq_self_eq_true ("spread" : Str))
      cases hg : spreadK k with
      | some k' =>
        unfold spreadK at hg
        split at hg
        · rcases hk with hk | hk <;> cases hk
          cases hg
          rw [if_retT ((andT gw).trans ((andT (eqT k0 (vC _) (by simp [hd]))).trans (eqT b0 (vC _) (by simp [hd]))))]
          exact retT (tup3 (vC _) (tup3 (vC _) v2 (ixT v3 (at_1 _ _ _))) (tup3 (vC _) v2 (ixT v3 (at_2 _ _ _ _)))) (enc_lf _)
        · cases hg
      | none =>
        have hh : (hd k == "both" && hd b == "either") = false := by
          rcases hk with rfl | rfl
          · simp only [hd, w12, Bool.false_and]
          · cases b <;> simp only [hd, w13, w15, w17, w07] <;> first | (simp [spreadK] at hg; done) | simp
        have hc : eAnd (eEq (eIx (eVar 0) (eC (.int 0))) (eC (.str "both"))) (eEq (eIx (eVar 3) (eC (.int 0))) (eC (.str "either"))) R = some (.ok 2 (.bool false)) := by
          cases hb : hd k == "both" with
          | false => exact andF (eqT k0 (vC _) hb)
          | true => rw [hb, Bool.true_and] at hh; exact (andT (eqT k0 (vC _) hb)).trans (eqT b0 (vC _) hh)
        rw [if_retF ((andT gw).trans hc), if_retF (andF (eqT v1 (vC _) v09)), if_retF (andF (eqT v1 (vC _) v09))]
        rfl
    · rw [if_retF (eqT v1 (vC _) v10), if_retF (andF (eqT v1 (vC _) v11)), if_retF (andF (eqT v1 (vC _) v12)), here_drop]
      have gw := eqT v1 (vC _) (beq_self_eq_true ("drop" : Str))
      rcases hk with rfl | rfl
      · rw [if_retF ((andT gw).trans (andF (eqT k0 (vC _) w12)))]
        cases a with
        | none => rw [if_retT ((andT gw).trans (iR _ (by simp [hd, w07])))]; exact retT v3 (enc_lf _)
        | one => rw [if_retF ((andT gw).trans (iR _ (by simp [hd, w07, w11])))]; rfl
        | name i => rw [if_retF ((andT gw).trans (iR _ (by simp [hd, w07, wz1])))]; rfl
        | either _ _ => rw [if_retF ((andT gw).trans (iR _ (by simp [hd, w07, w13])))]; rfl
        | both _ _ => rw [if_retF ((andT gw).trans (iR _ (by simp [hd, w07, w14])))]; rfl
      · have kb := eqT k0 (vC "both") (show (hd (.both a b) == "both") = true by simp [hd])
        cases a with
        | none => rw [if_retT ((andT gw).trans ((andT kb).trans (eqT a0 (vC _) (by simp [hd]))))]; rfl
        | one => rw [if_retF ((andT gw).trans ((andT kb).trans (eqT a0 (vC _) w08))), if_retT ((andT gw).trans (iR _ (by simp [hd])))]; exact retT v3 (enc_lf _)
        | name i => rw [if_retF ((andT gw).trans ((andT kb).trans (eqT a0 (vC _) w09))), if_retF ((andT gw).trans (iR _ (by simp [hd, w12, wz2])))]; rfl
        | either _ _ => rw [if_retF ((andT gw).trans ((andT kb).trans (eqT a0 (vC _) w01))), if_retF ((andT gw).trans (iR _ (by simp [hd, w12, w15])))]; rfl
        | both _ _ => rw [if_retF ((andT gw).trans ((andT kb).trans (eqT a0 (vC _) w04))), if_retF ((andT gw).trans (iR _ (by simp [hd, w12, w16])))]; rfl
    · rw [if_retF (eqT v1 (vC _) h1), if_retF (andF (eqT v1 (vC _) h2)), if_retF (andF (eqT v1 (vC _) h3)), if_retF (andF (eqT v1 (vC _) h4)), if_retF (andF (eqT v1 (vC _) h4)), here_no w k ⟨h1, h2, h3, h4⟩]
      rfl
theorem eqb_path (p : List Int) (h : p.length ≤ 90000) : dEq (encP p) (.tuple []) = some (.bool p.isEmpty) := by
  have h1 : eqOk (encP p) (.tuple []) = true := by
    simp [eqOk, lay_path, PyData.canLay0, PyData.canLayAll0, PyData.depth, PyData.depthAll]; omega
  cases p <;> simp [dEq, dEqB, h1, PyData.eqv, PyData.eqvAll, encP] <;> simp [encP] at h1 <;> simp [h1]
theorem sl_path (s : Int) (p : List Int) : dSl (some 1) none (encP (s :: p)) = some (encP p) := by
  have h : lfs ((s :: p).map PyData.int) = true := lfs_ints _
  show (if lfs ((s :: p).map PyData.int) = true then _ else _) = _
  rw [if_pos h]
  simp [cutP, sxP, encP]
  exact List.take_of_length_le (by simp)
theorem at_path (s : Int) (p : List Int) : dIx (encP (s :: p)) (.int 0) = some (.int s) := at0 _ _
theorem lput_ok : ∀ (p : List Int) (n : Nat) (k x y : Kd), p.length < n → p.length ≤ 900 → partK k p = some y → m_law_put n [enc k, encP p, enc x] = some (.ok (enc (putK k p x)))
  | [], n + 1, k, x, y, _, _, _ => by
    show runB 4 (b_law_put (m_law_put n)) [enc k, encP [], enc x] = _
    have h := eqb_path [] (by simp)
    simp [runB, b_law_put, sSeq, sIf, eEq, e2, eVar, eTup, eArgs, bindI, bindE, bindS, h, sRet, enc_lf, putK]
  | s :: p, n + 1, k, x, y, hn, hl, hp => by
    simp only [List.length_cons] at hn hl
    simp only [partK] at hp
    cases hs : stepK k s with
    | none => rw [hs] at hp; cases hp
    | some c =>
      rw [hs] at hp
      have ih := lput_ok p n c x y (by omega) (by omega) hp
      obtain ⟨h1, h2, h3, h4⟩ := step_ix hs
      show runB 4 (b_law_put (m_law_put n)) [enc k, encP (s :: p), enc x] = _
      have h := eqb_path (s :: p) (by simp; omega)
      have hq := sl_path s p
      have ha := at_path s p
      obtain ⟨a, b, e1', e2'⟩ : ∃ a b, enc k = .tuple [.str (hd k), enc a, enc b] ∧ enc (putK k (s :: p) x) = if s = 0 then .tuple [.str (hd k), enc (putK c p x), enc b] else .tuple [.str (hd k), enc a, enc (putK c p x)] := by
        cases k with
        | either a b =>
          refine ⟨a, b, rfl, ?_⟩
          simp only [stepK] at hs
          simp only [putK]
          split at hs
          · rename_i h0; cases hs; rw [if_pos h0, if_pos h0]; rfl
          · rename_i h0
            split at hs
            · cases hs; rw [if_neg h0, if_neg h0]; rfl
            · cases hs
        | both a b =>
          refine ⟨a, b, rfl, ?_⟩
          simp only [stepK] at hs
          simp only [putK]
          split at hs
          · rename_i h0; cases hs; rw [if_pos h0, if_pos h0]; rfl
          · rename_i h0
            split at hs
            · cases hs; rw [if_neg h0, if_neg h0]; rfl
            · cases hs
        | none => cases hs
        | one => cases hs
        | name _ => cases hs
      rw [e2']
      rw [e1'] at h1 ⊢
      rcases h3 with rfl | rfl
      · rw [if_pos rfl]
        have hac : enc a = enc c := Option.some.inj ((at_1 _ _ _).symm.trans h1)
        simp [hac, runB, b_law_put, sSeq, sIf, eEq, e2, eVar, eTup, eArgs, bindI, bindE, bindS, h, sNext, sSet, eCall, eIx, eC, ha, eAdd, addII, at_0, at_1, at_2, eSl, oSome, oNone, hq, ih, ofRC, asg_lf, enc_lf, eqII, sRet, lf, lfs]
      · rw [if_neg (by decide)]
        have hac : enc b = enc c := Option.some.inj ((at_2 _ _ _ _).symm.trans h1)
        simp [hac, runB, b_law_put, sSeq, sIf, eEq, e2, eVar, eTup, eArgs, bindI, bindE, bindS, h, sNext, sSet, eCall, eIx, eC, ha, eAdd, addII, at_0, at_1, at_2, eSl, oSome, oNone, hq, ih, ofRC, asg_lf, enc_lf, eqII, sRet, lf, lfs]
end KT
set_option Elab.async false
set_option linter.all false
set_option maxRecDepth 100000
namespace KT
open PySem
/-! ### whole numbers, things that hold nothing else -/
theorem whole_ok (n : Nat) (d : PyData) (hd : ∀ kvs, d ≠ .dict kvs := by intro _ h; cases h) : m_law_whole (n + 1) [d] = some (.ok (.bool (isTy .int d && !isTy .bool d))) := by
  unfold m_law_whole
  have hi : ∀ t, dIs t d = some (.bool (isTy t d)) := fun t => by cases d <;> first | rfl | exact absurd rfl (hd _)
  cases h : isTy .int d <;> cases h2 : isTy .bool d <;> simp [runB, b_law_whole, sRet, eAnd, eNot, eIs, e1, hi, eVar, bindE, bindS, h, h2, lf]
end KT
set_option Elab.async false
set_option linter.all false
set_option maxRecDepth 100000
namespace KT
open PySem
/-! ### a thing looked through -/
def wtBody (n : Nat) : FS := (sSeq (sPop 2 1) (sIf (eIs .tuple (eVar 2)) (sExtend 1 (eVar 2)) (sIf (eAnd (eNot (eCall (m_law_whole n) [(eVar 2)])) (eNot (eIs .str (eVar 2)))) (sRet (eC (.bool false))) sNext)))
def wtTest : FE := (eNe (eVar 1) (eLst []))
theorem ne_nilT (xs : List PyData) (h : PyData.canLayAll0 xs = true) : dNe (.list xs) (.list []) = some (.bool (!xs.isEmpty)) := by
  have h1 : eqOk (.list xs) (.list []) = true := by
    simp [eqOk, PyData.canLay0, h, PyData.canLayAll0, PyData.depth, PyData.depthAll]
  cases xs <;> simp [dNe, dEqB, h1, PyData.eqv, PyData.eqvAll]
theorem wt_test (a : Option Slot) (xs : List PyData) (x : Option Slot) (h : PyData.canLayAll0 xs = true) : wtTest [a, some (.own xs), x] = some (.ok 2 (.bool (!xs.isEmpty))) := by
  simp [wtTest, eNe, e2, eVar, eLst, eArgs, bindI, bindE, lfs, ne_nilT xs h]
theorem wt_loop (n : Nat) (a : Option Slot) : ∀ (fuel : Nat) (xs : List PyData) (x : Option Slot), plains xs = true → wszs xs < fuel → wszs xs ≤ 5000 →
    ∃ x', whileGo wtTest (wtBody (n + 1)) fuel [a, some (.own xs), x] = some (.next [a, some (.own []), x'])
  | 0, _, _, _, h, _ => by omega
  | fuel + 1, xs, x, hp, hf, hz => by
    have hl := plains_lay xs hp
    rcases List.eq_nil_or_concat xs with rfl | ⟨s, t, rfl⟩
    · exact ⟨x, by simp [whileGo, wt_test _ _ _ hl, bindS]⟩
    · rw [List.concat_eq_append] at *
      have hp' : plains s = true ∧ plain t = true := by simpa [plains_app, plains] using hp
      rw [wszs_app] at hf hz
      have hpos := wsz_pos t
      simp only [wszs] at hf hz
      have hlen := wszs_len s
      unfold whileGo
      rw [wt_test _ _ _ hl]
      have hne : (s ++ [t]).isEmpty = false := by simp
      cases t with
      | int i =>
        obtain ⟨x', e⟩ := wt_loop n a fuel s (some (.loc (.int i))) hp'.1 (by simp only [wsz] at *; omega) (by omega)
        refine ⟨x', ?_⟩
        have t : wtBody (n + 1) [a, some (.own (s ++ [.int i])), x] = some (.next [a, some (.own s), some (.loc (.int i))]) := by
          simp [wtBody, sSeq, sPop, sIf, eIs, e1, dIs, isTy, eVar, bindE, bindS, eAnd, eNot, eCall, eArgs, bindI, whole_ok, ofRC, sNext]
        simp only [bindS, hne, Bool.not_false, t]
        exact e
      | str i =>
        obtain ⟨x', e⟩ := wt_loop n a fuel s (some (.loc (.str i))) hp'.1 (by simp only [wsz] at *; omega) (by omega)
        refine ⟨x', ?_⟩
        have t : wtBody (n + 1) [a, some (.own (s ++ [.str i])), x] = some (.next [a, some (.own s), some (.loc (.str i))]) := by
          simp [wtBody, sSeq, sPop, sIf, eIs, e1, dIs, isTy, eVar, bindE, bindS, eAnd, eNot, eCall, eArgs, bindI, whole_ok, ofRC, sNext]
        simp only [bindS, hne, Bool.not_false, t]
        exact e
      | tuple ds =>
        have hd : plains ds = true := by simpa [plain] using hp'.2
        simp only [wsz] at hf hz
        obtain ⟨x', e⟩ := wt_loop n a fuel (s ++ ds) (some (.loc (.tuple ds))) (by rw [plains_app, hp'.1, hd]; rfl) (by rw [wszs_app]; omega) (by rw [wszs_app]; omega)
        have hld := wszs_len ds
        have hb : s.length + ds.length ≤ big := by unfold big; omega
        refine ⟨x', ?_⟩
        have t : wtBody (n + 1) [a, some (.own (s ++ [.tuple ds])), x] = some (.next [a, some (.own (s ++ ds)), some (.loc (.tuple ds))]) := by
          simp [wtBody, sSeq, sPop, sIf, eIs, e1, dIs, isTy, eVar, bindE, bindS, sExtend, plains_lf ds hd, hb]
        simp only [bindS, hne, Bool.not_false, t]
        exact e
      | none => simp [plain] at hp'
      | bool _ => simp [plain] at hp'
      | list _ => simp [plain] at hp'
      | dict _ => simp [plain] at hp'
theorem whole_thing_ok (n : Nat) (d : PyData) (h : plain d = true) (hz : wsz d ≤ 5000) : m_law_whole_thing (n + 2) [d] = some (.ok (.bool true)) := by
  have e : b_law_whole_thing (m_law_whole (n + 1)) = sSeq (sSet 1 (eLst [(eVar 0)])) (sSeq (sWhile wtTest (wtBody (n + 1))) (sRet (eC (.bool true)))) := rfl
  show runB 3 (b_law_whole_thing (m_law_whole (n + 1))) [d] = _
  rw [e]
  obtain ⟨x', q⟩ := wt_loop n (some (.par d)) wFuel [d] none (by simp [plains, h]) (by simp only [wszs]; unfold wFuel; omega) (by simp only [wszs]; omega)
  simp [runB, sSeq, sSet, eLst, eArgs, eVar, bindI, bindS, lfs, plain_lf d h, asg, lf, sWhile, q, sRet, eC]
end KT
set_option Elab.async false
set_option linter.all false
set_option maxRecDepth 100000
namespace KT
open PySem PySem.Spec PyProof.Rows
/-! ### _law_gone -/
theorem step_two {k c : Kd} {s : Int} (h : stepK k s = some c) : (s = 0 ∨ s = 1) ∧ inn k = true ∧ dIx (enc k) (.int (1 + s)) = some (enc c) := by
  cases k with
  | none => simp [stepK] at h
  | one => simp [stepK] at h
  | name i => simp [stepK] at h
  | either a b =>
    unfold stepK at h
    by_cases z : s = 0
    · subst z; simp at h; subst h; exact ⟨.inl rfl, rfl, at_1 _ _ _⟩
    · by_cases o : s = 1
      · subst o; simp at h; subst h; exact ⟨.inr rfl, rfl, at_2 _ _ _ _⟩
      · simp [z, o] at h
  | both a b =>
    unfold stepK at h
    by_cases z : s = 0
    · subst z; simp at h; subst h; exact ⟨.inl rfl, rfl, at_1 _ _ _⟩
    · by_cases o : s = 1
      · subst o; simp at h; subst h; exact ⟨.inr rfl, rfl, at_2 _ _ _ _⟩
      · simp [z, o] at h
theorem step_less {k c : Kd} {s : Int} (h : stepK k s = some c) : c.leaves < k.leaves := by
  cases k with
  | none => simp [stepK] at h
  | one => simp [stepK] at h
  | name i => simp [stepK] at h
  | either a b =>
    have := a.pos; have := b.pos
    unfold stepK at h
    by_cases z : s = 0
    · subst z; simp at h; subst h; simp only [Kd.leaves]; omega
    · by_cases o : s = 1
      · subst o; simp at h; subst h; simp only [Kd.leaves]; omega
      · simp [z, o] at h
  | both a b =>
    have := a.pos; have := b.pos
    unfold stepK at h
    by_cases z : s = 0
    · subst z; simp at h; subst h; simp only [Kd.leaves]; omega
    · by_cases o : s = 1
      · subst o; simp at h; subst h; simp only [Kd.leaves]; omega
      · simp [z, o] at h
theorem part_len : ∀ (p : List Int) (k x : Kd), partK k p = some x → p.length < k.leaves
  | [], k, x, _ => k.pos
  | s :: p, k, x, h => by
    simp only [partK] at h
    cases hs : stepK k s with
    | none => rw [hs] at h; cases h
    | some c =>
      rw [hs] at h
      have := part_len p c x h
      have := step_less hs
      simp only [List.length_cons]; omega
theorem notIn01 {s : Int} (h : s = 0 ∨ s = 1) : dNotIn (.int s) (.tuple [.int 0, .int 1]) = some (.bool false) := by
  rcases h with rfl | rfl <;> simp [dNotIn, dInB, inOk, PyData.canLay0, PyData.canLayAll0, PyData.depth, PyData.depthAll, PyData.eqv]
def goI : FS := (sSeq (sIf (eOr (eNotIn (eVar 4) (eTup [(eC (.int 0)), (eC (.int 1))])) (eLt (eLen (eVar 3)) (eC (.int 3)))) (sRet (eC .none)) sNext) (sSet 3 (eIx (eVar 3) (eAdd (eC (.int 1)) (eVar 4)))))
theorem goI_ok (x0 x1 x2 x5 : Option Slot) {k c : Kd} {s : Int} (h : stepK k s = some c) : goI [x0, x1, x2, some (.loc (enc k)), some (.loc (.int s)), x5] = some (.next [x0, x1, x2, some (.loc (enc c)), some (.loc (.int s)), x5]) := by
  obtain ⟨h1, h2, h3⟩ := step_two h
  have n1 := notIn01 h1
  have l1 := len_inn h2
  have lc := enc_lf c
  simp [goI, sSeq, sIf, eOr, eNotIn, e2, eVar, eTup, eArgs, eC, bindI, bindE, bindS, n1, eLt, eLen, e1, l1, dLt, sNext, sSet, eIx, eAdd, addII, h3, asg, lc]
theorem goI_loop (x0 x1 x2 x5 : Option Slot) : ∀ (p : List Int) (k x : Kd) (x4 : Option Slot), partK k p = some x → ∃ y4, forGo (tgName 4) goI (p.map .int) [x0, x1, x2, some (.loc (enc k)), x4, x5] = some (.next [x0, x1, x2, some (.loc (enc x)), y4, x5])
  | [], k, x, x4, h => by cases h; exact ⟨x4, rfl⟩
  | s :: p, k, x, x4, h => by
    simp only [partK] at h
    cases hs : stepK k s with
    | none => rw [hs] at h; cases h
    | some c =>
      rw [hs] at h
      obtain ⟨y4, e⟩ := goI_loop x0 x1 x2 x5 p c x (some (.loc (.int s))) h
      refine ⟨y4, ?_⟩
      rw [← e, List.map_cons]
      exact for_next rfl (goI_ok x0 x1 x2 x5 hs)
def goT (gp gh gw : FC) : FS := (sSeq (sIf (eOr (eNot (eIs .tuple (eVar 2))) (eOr (eNe (eLen (eVar 2)) (eC (.int 2))) (eNot (eIs .tuple (eIx (eVar 2) (eC (.int 1))))))) (sRet (eC .none)) sNext) (sSeq (sIf (eNot (eCall gw [(eVar 2)])) (sRet (eC .none)) sNext) (sSeq (sSet 3 (eVar 0)) (sSeq (sFor (iSeq (eIx (eVar 2) (eC (.int 1)))) (tgName 4) goI) (sSeq (sSet 5 (eCall gh [(eVar 3), (eIx (eVar 2) (eC (.int 0)))])) (sSeq (sIf (eIsN (eVar 5) (eC .none)) (sRet (eC .none)) sNext) (sSet 0 (eCall gp [(eVar 0), (eIx (eVar 2) (eC (.int 1))), (eVar 5)]))))))))
theorem enc_notN (k : Kd) : dIsN (enc k) .none = some (.bool false) := by cases k <;> rfl
theorem goT_ok (gp gh gw : FC) (x1 : Option Slot) (s0 : Slot) (k x y c : Kd) (w : Str) (p : List Int) (x3 x4 x5 : Option Slot) (h0 : s0 = .par (enc k) ∨ s0 = .loc (enc k)) (hw : gw [encT w p] = some (.ok (.bool true)))
    (hp : partK k p = some x) (hh : gh [enc x, .str w] = some (.ok (enc y))) (hg : gp [enc k, encP p, enc y] = some (.ok (enc c))) :
    ∃ y3 y4 y5, goT gp gh gw [some s0, x1, some (.loc (encT w p)), x3, x4, x5] = some (.next [some (.loc (enc c)), x1, some (.loc (encT w p)), y3, y4, y5]) := by
  have v0 : ∀ r, ∃ l, eVar 0 (some s0 :: r) = some (.ok l (enc k)) := fun r => by rcases h0 with rfl | rfl <;> exact ⟨_, rfl⟩
  have lk := enc_lf k
  have ly := enc_lf y
  have lc := enc_lf c
  have c1 : (sIf (eOr (eNot (eIs .tuple (eVar 2))) (eOr (eNe (eLen (eVar 2)) (eC (.int 2))) (eNot (eIs .tuple (eIx (eVar 2) (eC (.int 1))))))) (sRet (eC .none)) sNext) [some s0, x1, some (.loc (encT w p)), x3, x4, x5] = some (.next [some s0, x1, some (.loc (encT w p)), x3, x4, x5]) := by
    have a1 : atP [PyData.str w, encP p] 1 = some (encP p) := rfl
    have a2 : ((2 : Int) == 2) = true := rfl
    simp [sIf, eOr, eNot, eIs, e1, eVar, bindE, bindS, dIs, isTy, encT, eNe, e2, eLen, dLen, eC, neII, eIx, dIx, a1, encP, sNext]
    rfl
  have c2 : (sIf (eNot (eCall gw [(eVar 2)])) (sRet (eC .none)) sNext) [some s0, x1, some (.loc (encT w p)), x3, x4, x5] = some (.next [some s0, x1, some (.loc (encT w p)), x3, x4, x5]) := by
    simp [sIf, eNot, eCall, eArgs, eVar, bindI, bindE, bindS, hw, ofRC, sNext]
  have c3 : (sSet 3 (eVar 0)) [some s0, x1, some (.loc (encT w p)), x3, x4, x5] = some (.next [some s0, x1, some (.loc (encT w p)), some (.loc (enc k)), x4, x5]) := by
    obtain ⟨l, e⟩ := v0 [x1, some (.loc (encT w p)), x3, x4, x5]
    simp [sSet, e, bindS, asg, lk]
  obtain ⟨y4, c4'⟩ := goI_loop (some s0) x1 (some (.loc (encT w p))) x5 p k x x4 hp
  have c4 : (sFor (iSeq (eIx (eVar 2) (eC (.int 1)))) (tgName 4) goI) [some s0, x1, some (.loc (encT w p)), some (.loc (enc k)), x4, x5] = some (.next [some s0, x1, some (.loc (encT w p)), some (.loc (enc x)), y4, x5]) := by
    have q : (iSeq (eIx (eVar 2) (eC (.int 1)))) [some s0, x1, some (.loc (encT w p)), some (.loc (enc k)), x4, x5] = some (.ok 2 (p.map .int)) := by
      have a1 : atP [PyData.str w, encP p] 1 = some (encP p) := rfl
      simp [iSeq, eIx, e2, eVar, eC, bindE, encT, dIx, a1]
      simp [encP, lfs_ints]
    unfold sFor
    rw [q]
    exact c4'
  have c5 : (sSet 5 (eCall gh [(eVar 3), (eIx (eVar 2) (eC (.int 0)))])) [some s0, x1, some (.loc (encT w p)), some (.loc (enc x)), y4, x5] = some (.next [some s0, x1, some (.loc (encT w p)), some (.loc (enc x)), y4, some (.loc (enc y))]) := by
    have a0 : atP [PyData.str w, encP p] 0 = some (.str w) := rfl
    simp [sSet, eCall, eArgs, eVar, eIx, e2, eC, bindE, bindI, bindS, encT, dIx, a0, hh, ofRC, asg, ly]
  have c6 : (sIf (eIsN (eVar 5) (eC .none)) (sRet (eC .none)) sNext) [some s0, x1, some (.loc (encT w p)), some (.loc (enc x)), y4, some (.loc (enc y))] = some (.next [some s0, x1, some (.loc (encT w p)), some (.loc (enc x)), y4, some (.loc (enc y))]) := by
    simp [sIf, eIsN, e2, eVar, eC, bindE, bindS, enc_notN, sNext]
  have c7 : (sSet 0 (eCall gp [(eVar 0), (eIx (eVar 2) (eC (.int 1))), (eVar 5)])) [some s0, x1, some (.loc (encT w p)), some (.loc (enc x)), y4, some (.loc (enc y))] = some (.next [some (.loc (enc c)), x1, some (.loc (encT w p)), some (.loc (enc x)), y4, some (.loc (enc y))]) := by
    obtain ⟨l, e⟩ := v0 [x1, some (.loc (encT w p)), some (.loc (enc x)), y4, some (.loc (enc y))]
    have a1 : atP [PyData.str w, encP p] 1 = some (encP p) := rfl
    have q : (eIx (eVar 2) (eC (.int 1))) [some s0, x1, some (.loc (encT w p)), some (.loc (enc x)), y4, some (.loc (enc y))] = some (.ok 1 (encP p)) := by
      simp [eIx, e2, eVar, eC, bindE, encT, dIx, a1]
    have q5 : eVar 5 [some s0, x1, some (.loc (encT w p)), some (.loc (enc x)), y4, some (.loc (enc y))] = some (.ok 1 (enc y)) := rfl
    simp [sSet, eCall, eArgs, e, q, q5, bindI, bindS, hg, ofRC, asg, lc]
  exact ⟨_, _, _, by unfold goT; rw [seq_next c1, seq_next c2, seq_next c3, seq_next c4, seq_next c5, seq_next c6, c7]⟩
theorem ints_wsz : ∀ p : List Int, wszs (p.map .int) = p.length
  | [] => rfl
  | n :: ns => by simp [wszs, wsz, ints_wsz ns]; omega
theorem ints_plains : ∀ p : List Int, plains (p.map .int) = true
  | [] => rfl
  | n :: ns => by simp [plains, plain, ints_plains ns]
theorem encW_cons' (p q : List Int) (w : Str) (r : TRow) : encW p ((w, q) :: r) = encT w (p ++ q) :: encW p r := rfl
theorem lfs_W (p : List Int) : ∀ r : TRow, lfs (encW p r) = true
  | [] => rfl
  | (w, q) :: r => by simp only [encW_cons', lfs, lfs_W p r, Bool.and_true]; simp [encT, lf, lfs, lf_path]
theorem go_loop (n : Nat) (x1 : Option Slot) : ∀ (row : TRow) (k c : Kd) (s0 : Slot) (x2 x3 x4 x5 : Option Slot), goK k row = some c → (s0 = .par (enc k) ∨ s0 = .loc (enc k)) → sE k ≤ 40 → (∀ t ∈ row, PyData.strOk t.1 = true) →
    ∃ s0' y2 y3 y4 y5, (s0' = .par (enc c) ∨ s0' = .loc (enc c)) ∧ forGo (tgName 2) (goT (m_law_put (n + 41)) (m_law_here (n + 41)) (m_law_whole_thing (n + 41))) (encW [] row) [some s0, x1, x2, x3, x4, x5] = some (.next [some s0', x1, y2, y3, y4, y5])
  | [], k, c, s0, x2, x3, x4, x5, h, h0, _, _ => by cases h; exact ⟨s0, x2, x3, x4, x5, h0, rfl⟩
  | (w, p) :: row, k, c, s0, x2, x3, x4, x5, h, h0, hs, ho => by
    simp only [goK] at h
    cases e : turnK k w p with
    | none => rw [e] at h; cases h
    | some d =>
      rw [e] at h
      obtain ⟨x, y, hp, hh, rfl⟩ := turn_split e
      have hl := part_len p k x hp
      have hk : k.leaves ≤ 40 := Nat.le_trans (sE_leaves k) hs
      have hw : m_law_whole_thing (n + 41) [encT w p] = some (.ok (.bool true)) := by
        refine whole_thing_ok (n + 39) _ ?_ ?_
        · have := ho (w, p) (List.mem_cons_self ..)
          simp only at this
          simp [encT, plain, plains, this, encP, ints_plains]
        · simp [encT, wsz, wszs, encP, ints_wsz]; omega
      have hh' := lhere_ok (n + 40) w x
      rw [hh] at hh'
      obtain ⟨y3, y4, y5, q⟩ := goT_ok (m_law_put (n + 41)) (m_law_here (n + 41)) (m_law_whole_thing (n + 41)) x1 s0 k x y (putK k p y) w p x3 x4 x5 h0 hw hp hh' (lput_ok p (n + 41) k y x (by omega) (by omega) hp)
      obtain ⟨s0', z2, z3, z4, z5, hz, r⟩ := go_loop n x1 row (putK k p y) c (.loc (enc (putK k p y))) (some (.loc (encT w p))) y3 y4 y5 h (.inr rfl) (Nat.le_trans (turn_E e).2 hs) fun t ht => ho t (List.mem_cons_of_mem _ ht)
      refine ⟨s0', z2, z3, z4, z5, hz, ?_⟩
      rw [encW_cons', ← r]
      exact for_next rfl q
theorem gone_law_ok (n : Nat) (k c : Kd) (row : TRow) (h : goK k row = some c) (hs : sE k ≤ 40) (ho : ∀ t ∈ row, PyData.strOk t.1 = true) : m_law_gone (n + 42) [enc k, .list (encW [] row)] = some (.ok (enc c)) := by
  obtain ⟨s0', y2, y3, y4, y5, hz, r⟩ := go_loop n (some (.par (.list (encW [] row)))) row k c (.par (enc k)) none none none none h (.inl rfl) hs ho
  have e : b_law_gone (m_law_put (n + 41)) (m_law_here (n + 41)) (m_law_whole_thing (n + 41)) = (sSeq (sIf (eNot (eIs .list (eVar 1))) (sRet (eC .none)) sNext) (sSeq (sForV 1 (tgName 2) (goT (m_law_put (n + 41)) (m_law_here (n + 41)) (m_law_whole_thing (n + 41)))) (sRet (eVar 0)))) := rfl
  have hl : lfs (encW [] row) = true := lfs_W [] row
  generalize encW [] row = R at *
  have s1 : (sIf (eNot (eIs .list (eVar 1))) (sRet (eC .none)) sNext) [some (.par (enc k)), some (.par (.list R)), none, none, none, none] = some (.next [some (.par (enc k)), some (.par (.list R)), none, none, none, none]) := by
    simp [sIf, eNot, eIs, e1, eVar, bindE, bindS, dIs, isTy, sNext]
  have s2 : sForV 1 (tgName 2) (goT (m_law_put (n + 41)) (m_law_here (n + 41)) (m_law_whole_thing (n + 41))) [some (.par (enc k)), some (.par (.list R)), none, none, none, none] = some (.next [some s0', some (.par (.list R)), y2, y3, y4, y5]) := by
    unfold sForV
    simp only [List.getElem?_cons_succ, List.getElem?_cons_zero, hl, if_true]
    exact r
  have lc := enc_lf c
  have s3 : sRet (eVar 0) [some s0', some (.par (.list R)), y2, y3, y4, y5] = some (.ret (enc c)) := by
    rcases hz with rfl | rfl <;> simp [sRet, eVar, bindS, lc]
  unfold m_law_gone
  refine run_ret ?_
  show b_law_gone (m_law_put (n + 41)) (m_law_here (n + 41)) (m_law_whole_thing (n + 41)) [some (.par (enc k)), some (.par (.list R)), none, none, none, none] = _
  rw [e, seq_next s1, seq_next s2, s3]
end KT
set_option Elab.async false
set_option linter.all false
set_option maxRecDepth 100000
namespace KT
open PySem
/-! ### the bundles, worked out in the law -/
def appL : FS := (sAppend 3 (eTuple (eSorted (eAdd (eVar 4) (eVar 5)))))
theorem app_ok (r0 r1 r2 : Option Slot) (acc : List PyData) (x y : List Int) (h : x.length + y.length < 64) (ha : acc.length < big) :
    appL [r0, r1, r2, some (.own acc), some (.loc (rowD x)), some (.loc (rowD y))] = some (.next [r0, r1, r2, some (.own (acc ++ [rowD (gsort ltI (x ++ y))])), some (.loc (rowD x)), some (.loc (rowD y))]) := by
  have h1 := cat_rows x y (by unfold big; omega)
  have h2 := sorted_row (x := x ++ y) (by simpa using h)
  simp [appL, sAppend, eTuple, eSorted, eAdd, e1, e2, eVar, bindE, bindS, h1, h2, tup_ints, lfR, ha]
theorem in_loop (r0 r1 r2 : Option Slot) (x : List Int) : ∀ (ys acc : List (List Int)) (x5 : Option Slot), (∀ y ∈ ys, x.length + y.length < 64) → acc.length + ys.length ≤ 5000 →
    ∃ x', forGo (tgName 5) appL (ys.map rowD) [r0, r1, r2, some (.own (acc.map rowD)), some (.loc (rowD x)), x5] = some (.next [r0, r1, r2, some (.own ((acc ++ row2 x ys).map rowD)), some (.loc (rowD x)), x'])
  | [], acc, x5, _, _ => ⟨x5, by simp [forGo, row2]⟩
  | y :: ys, acc, x5, h, hz => by
    simp only [List.length_cons] at hz
    have t := app_ok r0 r1 r2 (acc.map rowD) x y (h y (List.mem_cons_self ..)) (by unfold big; simp; omega)
    obtain ⟨x', e⟩ := in_loop r0 r1 r2 x ys (acc ++ [gsort ltI (x ++ y)]) (some (.loc (rowD y))) (fun z hz => h z (List.mem_cons_of_mem _ hz)) (by simp; omega)
    refine ⟨x', ?_⟩
    simp only [List.map_cons, forGo, tgName, List.set_cons_succ, List.set_cons_zero, t]
    rw [show acc.map rowD ++ [rowD (gsort ltI (x ++ y))] = (acc ++ [gsort ltI (x ++ y)]).map rowD by simp, e]
    simp [row2]
theorem out_loop (r0 r1 : Option Slot) (ys : List (List Int)) (hy : ys.length ≤ 18) : ∀ (xs acc : List (List Int)) (s2 x4 x5 : Option Slot), (s2 = some (.own (ys.map rowD)) ∨ s2 = some (.loc (.list (ys.map rowD)))) → (∀ x ∈ xs, ∀ y ∈ ys, x.length + y.length < 64) → acc.length + xs.length * 18 ≤ 5000 →
    ∃ s2' x4' x5', forGo (tgName 4) (sForV 2 (tgName 5) appL) (xs.map rowD) [r0, r1, s2, some (.own (acc.map rowD)), x4, x5] = some (.next [r0, r1, s2', some (.own ((acc ++ pairs xs ys).map rowD)), x4', x5'])
  | [], acc, s2, x4, x5, _, _, _ => ⟨s2, x4, x5, by simp [forGo, pairs]⟩
  | x :: xs, acc, s2, x4, x5, hs, h, hz => by
    simp only [List.length_cons] at hz
    have hl : (row2 x ys).length = ys.length := by simp [row2]
    obtain ⟨x', e⟩ := in_loop r0 r1 (some (.loc (.list (ys.map rowD)))) x ys acc x5 (h x (List.mem_cons_self ..)) (by omega)
    obtain ⟨s2', x4', x5', e'⟩ := out_loop r0 r1 ys hy xs (acc ++ row2 x ys) (some (.loc (.list (ys.map rowD)))) (some (.loc (rowD x))) x' (.inr rfl) (fun z hz => h z (List.mem_cons_of_mem _ hz)) (by rw [List.length_append, hl]; omega)
    refine ⟨s2', x4', x5', ?_⟩
    have t : sForV 2 (tgName 5) appL [r0, r1, s2, some (.own (acc.map rowD)), some (.loc (rowD x)), x5] = some (.next [r0, r1, some (.loc (.list (ys.map rowD))), some (.own ((acc ++ row2 x ys).map rowD)), some (.loc (rowD x)), x']) := by
      rcases hs with rfl | rfl
      · simpa [sForV] using e
      · simpa [sForV, lfsR] using e
    simp only [List.map_cons, forGo, tgName, List.set_cons_succ, List.set_cons_zero, t]
    rw [e', pairs_cons, List.append_assoc]
theorem eq12 : ((2 : Int) == 1) = false := rfl
theorem eq31 : ((3 : Int) == 1) = false := rfl
theorem eq32 : ((3 : Int) == 2) = false := rfl
theorem mul_unit (b : Bool) : dMul (.list [.tuple []]) (.int (if b = true then 1 else 0)) = some (.list (if b = true then [.tuple []] else [])) := by
  cases b <;> simp [dMul, lfs, lf, big]
theorem lbundles_ok : ∀ (k : Kd) (n : Nat), k.leaves ≤ n → k.leaves ≤ 63 → Fit k → m_law_bundles n [enc k] = some (.ok (rowsD (lb k)))
  | .none, n + 1, _, _, _ => by
    have hm := mul_unit false
    simp only [Bool.false_eq_true, if_false] at hm
    unfold m_law_bundles
    simp [runB, b_law_bundles, sSeq, sIf, eEq, eLen, e1, dLen, e2, eVar, eC, bindE, bindS, enc, dEq, dEqB, sRet, eMul, eLst, eTup, eArgs, bindI, lf, lfs, eInt, eIx, dIx, atP, ixP, w11, dInt, hm, rowsD, lb]
  | .one, n + 1, _, _, _ => by
    have hm := mul_unit true
    simp only [if_true] at hm
    unfold m_law_bundles
    simp [runB, b_law_bundles, sSeq, sIf, eEq, eLen, e1, dLen, e2, eVar, eC, bindE, bindS, enc, dEq, dEqB, sRet, eMul, eLst, eTup, eArgs, bindI, lf, lfs, eInt, eIx, dIx, atP, ixP, dInt, hm, rowsD, rowD, lb]
  | .name i, n + 1, _, _, _ => by
    have e1' : atP [PyData.str "name", .int i] 1 = some (.int i) := rfl
    unfold m_law_bundles
    simp [runB, b_law_bundles, sSeq, sIf, eEq, eLen, e1, dLen, e2, eVar, eC, bindE, bindS, enc, dEq, dEqB, sRet, eLst, eTup, eArgs, bindI, lf, lfs, eIx, dIx, e1', sNext, eq12, rowsD, rowD, lb]
  | .either a b, n + 1, hn, h8, ⟨fa, fb, hab⟩ => by
    have pa := a.pos
    have pb := b.pos
    simp only [Kd.leaves] at hn h8
    have ea := lbundles_ok a n (by omega) (by omega) fa
    have eb := lbundles_ok b n (by omega) (by omega) fb
    have la := lb_18 a fa
    have lb' := lb_18 b fb
    have e0 : atP [PyData.str "either", enc a, enc b] 0 = some (.str "either") := rfl
    have e1' : atP [PyData.str "either", enc a, enc b] 1 = some (enc a) := rfl
    have e2' : atP [PyData.str "either", enc a, enc b] 2 = some (enc b) := rfl
    have had : dAdd (.list ((lb a).map rowD)) (.list ((lb b).map rowD)) = some (rowsD (lb a ++ lb b)) := by
      have : (lb a).length + (lb b).length ≤ big := by unfold big; omega
      simp [dAdd, rowsD, lfsR, this]
    have hs := sorted_rows (rs := lb a ++ lb b) (by simp; omega)
    simp only [rowsD] at ea eb
    unfold m_law_bundles
    simp [runB, b_law_bundles, sSeq, sIf, eEq, eLen, e1, dLen, e2, eVar, eC, bindE, bindS, enc, dEq, dEqB, sRet, eArgs, bindI, eIx, dIx, e0, e1', e2', sNext, eq31, eq32, sSet, eCall, ea, eb, ofRC, asg_own (lfsR _), eSorted, eAdd, had, hs, lb]
  | .both a b, n + 1, hn, h8, hF => by
    obtain ⟨fa, fb, hab⟩ := id hF
    have pa := a.pos
    have pb := b.pos
    have h18 := lb_18 (.both a b) hF
    simp only [Kd.leaves] at hn h8
    have ea := lbundles_ok a n (by omega) (by omega) fa
    have eb := lbundles_ok b n (by omega) (by omega) fb
    have la := lb_18 a fa
    have lb' := lb_18 b fb
    have e0 : atP [PyData.str "both", enc a, enc b] 0 = some (.str "both") := rfl
    have e1' : atP [PyData.str "both", enc a, enc b] 1 = some (enc a) := rfl
    have e2' : atP [PyData.str "both", enc a, enc b] 2 = some (enc b) := rfl
    simp only [lb, rsort_len] at h18
    have hs := sorted_rows (rs := pairs (lb a) (lb b)) (by omega)
    obtain ⟨s2', x4', x5', el⟩ := out_loop (some (.par (enc (.both a b)))) (some (.loc (.list ((lb a).map rowD)))) (lb b) lb' (lb a) [] (some (.own ((lb b).map rowD))) none none (.inl rfl) (fun x hx y hy => by have := lb_row a x hx; have := lb_row b y hy; omega) (by simp; omega)
    simp only [enc, List.map_nil, List.nil_append] at el
    simp only [rowsD] at ea eb hs
    have shape : b_law_bundles (m_law_bundles n) = (sSeq (sIf (eEq (eLen (eVar 0)) (eC (.int 1))) (sRet (eMul (eLst [(eTup [])]) (eInt (eEq (eIx (eVar 0) (eC (.int 0))) (eC (.str "one")))))) sNext) (sSeq (sIf (eEq (eLen (eVar 0)) (eC (.int 2))) (sRet (eLst [(eTup [(eIx (eVar 0) (eC (.int 1)))])])) sNext) (sSeq (sSet 1 (eCall (m_law_bundles n) [(eIx (eVar 0) (eC (.int 1)))])) (sSeq (sSet 2 (eCall (m_law_bundles n) [(eIx (eVar 0) (eC (.int 2)))])) (sSeq (sIf (eEq (eIx (eVar 0) (eC (.int 0))) (eC (.str "either"))) (sRet (eSorted (eAdd (eVar 1) (eVar 2)))) sNext) (sSeq (sSet 3 (eLst [])) (sSeq (sForV 1 (tgName 4) (sForV 2 (tgName 5) appL)) (sRet (eSorted (eVar 3)))))))))) := rfl
    show runB 6 (b_law_bundles (m_law_bundles n)) [enc (.both a b)] = _
    rw [shape]
    have hF : ∀ ρ : Rho, ρ[1]? = some (some (.own ((lb a).map rowD))) → sForV 1 (tgName 4) (sForV 2 (tgName 5) appL) ρ = forGo (tgName 4) (sForV 2 (tgName 5) appL) ((lb a).map rowD) (ρ.set 1 (some (.loc (.list ((lb a).map rowD))))) := fun ρ h => by
      rw [sForV, h]
    simp [runB, sSeq, sIf, eEq, eLen, e1, dLen, e2, eVar, eC, bindE, bindS, enc, dEq, dEqB, sRet, eArgs, bindI, eIx, dIx, e0, e1', e2', sNext, eq31, eq32, sSet, eCall, ea, eb, ofRC, asg_own (lfsR _), asg_own (show lfs [] = true from rfl), w07, eLst, lfs, hF, el, eSorted, hs, lb, rowsD]
  | .none, 0, h, _, _ => by simp [Kd.leaves] at h
  | .one, 0, h, _, _ => by simp [Kd.leaves] at h
  | .name _, 0, h, _, _ => by simp [Kd.leaves] at h
  | .either a b, 0, h, _, _ => by have := a.pos; simp only [Kd.leaves] at h; omega
  | .both a b, 0, h, _, _ => by have := a.pos; simp only [Kd.leaves] at h; omega
end KT
set_option Elab.async false
set_option linter.all false
set_option maxRecDepth 100000
namespace KT
open PySem
/-! ### the plain kind, worked out in the law -/
def inB : FS := (sSet 3 (eIf (eEq (eVar 4) (eC (.int 0))) (eTup [(eC (.str "name")), (eVar 5)]) (eTup [(eC (.str "both")), (eTup [(eC (.str "name")), (eVar 5)]), (eVar 3)])))
theorem name_lf (n : Int) : lf (nameD n) = true := rfl
theorem succ_ne (i : Nat) : (((i + 1 : Nat) : Int) == 0) = false := by simp; omega
theorem in_rest (r0 r1 r2 r6 : Option Slot) : ∀ (xs : List Int) (i : Nat) (m : PyData) (x4 x5 : Option Slot), lf m = true →
    ∃ y4 y5, forGo (tgPair 4 5) inB (enumFrom (i + 1) (xs.map .int)) [r0, r1, r2, some (.loc m), x4, x5, r6] = some (.next [r0, r1, r2, some (.loc ((xs.map nameD).foldl (wrap "both") m)), y4, y5, r6])
  | [], i, m, x4, x5, _ => ⟨x4, x5, rfl⟩
  | x :: xs, i, m, x4, x5, hm => by
    have hw := wrap_lf "both" hm (name_lf x)
    obtain ⟨y4, y5, e⟩ := in_rest r0 r1 r2 r6 xs (i + 1) (wrap "both" m (nameD x)) (some (.loc (.int ((i + 1 : Nat) : Int)))) (some (.loc (.int x))) hw
    refine ⟨y4, y5, ?_⟩
    have t : inB [r0, r1, r2, some (.loc m), some (.loc (.int ((i + 1 : Nat) : Int))), some (.loc (.int x)), r6] = some (.next [r0, r1, r2, some (.loc (wrap "both" m (nameD x))), some (.loc (.int ((i + 1 : Nat) : Int))), some (.loc (.int x)), r6]) := by
      have h0 := succ_ne i
      unfold wrap nameD at hw ⊢
      simp only [inB, sSet, eIf, eEq, e2, eVar, eC, bindE, List.getElem?_cons_succ, List.getElem?_cons_zero, eqII, h0, Option.map_some, eTup, eArgs, bindI, bindS, asg_lf hw, List.set_cons_succ, List.set_cons_zero]
    simp only [List.map_cons, enumFrom, forGo, tgPair, List.set_cons_succ, List.set_cons_zero, t, List.foldl_cons]
    exact e
theorem in_ok (r0 r1 r2 r6 : Option Slot) (r : List Int) (x4 x5 : Option Slot) :
    ∃ y4 y5, forGo (tgPair 4 5) inB (enumFrom 0 ((r.map PyData.int).reverse)) [r0, r1, r2, some (.loc (.tuple [.str "one"])), x4, x5, r6] = some (.next [r0, r1, r2, some (.loc (kindD r)), y4, y5, r6]) := by
  rw [← List.map_reverse]
  generalize hq : r.reverse = q
  have hr : r = q.reverse := by rw [← hq, List.reverse_reverse]
  subst hr
  clear hq
  cases q with
  | nil => exact ⟨x4, x5, rfl⟩
  | cons x xs =>
    obtain ⟨y4, y5, e⟩ := in_rest r0 r1 r2 r6 xs 0 (nameD x) (some (.loc (.int 0))) (some (.loc (.int x))) (name_lf x)
    refine ⟨y4, y5, ?_⟩
    have hk : kindD (x :: xs).reverse = (xs.map nameD).foldl (wrap "both") (nameD x) := by
      unfold kindD
      rw [enc_bk _ (by simp), List.reverse_cons, List.map_append, List.map_reverse]
      exact chD_foldl "both" (xs.map nameD) (nameD x)
    rw [hk, ← e]
    have t : inB [r0, r1, r2, some (.loc (.tuple [.str "one"])), some (.loc (.int 0)), some (.loc (.int x)), r6] = some (.next [r0, r1, r2, some (.loc (nameD x)), some (.loc (.int 0)), some (.loc (.int x)), r6]) := by
      have := asg_lf (l := 1) (name_lf x)
      unfold nameD at this ⊢
      simp [inB, sSet, eIf, eEq, e2, eVar, eC, bindE, eqII, eTup, eArgs, bindI, bindS, this]
    simp only [List.map_cons, enumFrom, forGo, tgPair, List.set_cons_succ, List.set_cons_zero, Int.cast_ofNat_Int, t]
def rowB : FS := (sSeq (sSet 3 (eTup [(eC (.str "one"))])) (sSeq (sFor (iEnum (eListRev (eVar 2))) (tgPair 4 5) inB) (sAppend 1 (eVar 3))))
theorem lfs_revI (r : List Int) : lfs ((r.map PyData.int).reverse) = true := by rw [← List.map_reverse]; exact lfsI _
theorem row_ok (r0 r6 : Option Slot) (r : List Int) (hr : r.length ≤ 63) (acc : List PyData) (ha : acc.length < big) (x3 x4 x5 : Option Slot) :
    ∃ y4 y5, rowB [r0, some (.own acc), some (.loc (rowD r)), x3, x4, x5, r6] = some (.next [r0, some (.own (acc ++ [kindD r])), some (.loc (rowD r)), some (.loc (kindD r)), y4, y5, r6]) := by
  obtain ⟨y4, y5, e⟩ := in_ok r0 (some (.own acc)) (some (.loc (rowD r))) r6 r x4 x5
  refine ⟨y4, y5, ?_⟩
  have hb : r.length ≤ big := by unfold big; omega
  have hl : lf (kindD r) = true := enc_lf _
  have hd : dListRev (rowD r) = some (.list ((r.map PyData.int).reverse)) := by simp [dListRev, rowD, lfsI, hb]
  simp [rowB, sSeq, sSet, eTup, eArgs, eC, bindI, bindS, asg, lf, lfs, sFor, iEnum, eListRev, e1, eVar, bindE, hd, lfs_revI, e, sAppend, hl, ha]
theorem rows_loop (r0 r6 : Option Slot) : ∀ (rs : List (List Int)) (acc : List PyData) (x2 x3 x4 x5 : Option Slot), (∀ r ∈ rs, r.length ≤ 63) → acc.length + rs.length ≤ 5000 →
    ∃ y2 y3 y4 y5, forGo (tgName 2) rowB (rs.map rowD) [r0, some (.own acc), x2, x3, x4, x5, r6] = some (.next [r0, some (.own (acc ++ rs.map kindD)), y2, y3, y4, y5, r6])
  | [], acc, x2, x3, x4, x5, _, _ => ⟨x2, x3, x4, x5, by simp [forGo]⟩
  | r :: rs, acc, x2, x3, x4, x5, h, hz => by
    simp only [List.length_cons] at hz
    obtain ⟨u4, u5, t⟩ := row_ok r0 r6 r (h r (List.mem_cons_self ..)) acc (by unfold big; omega) x3 x4 x5
    obtain ⟨y2, y3, y4, y5, e⟩ := rows_loop r0 r6 rs (acc ++ [kindD r]) (some (.loc (rowD r))) (some (.loc (kindD r))) u4 u5 (fun z hz => h z (List.mem_cons_of_mem _ hz)) (by simp; omega)
    refine ⟨y2, y3, y4, y5, ?_⟩
    simp only [List.map_cons, forGo, tgName, List.set_cons_succ, List.set_cons_zero, t]
    rw [e, List.append_assoc]; rfl
def endB : FS := (sSet 6 (eIf (eEq (eVar 4) (eC (.int 0))) (eVar 3) (eTup [(eC (.str "either")), (eVar 3), (eVar 6)])))
theorem end_rest (r0 r1 r2 r5 : Option Slot) : ∀ (ks : List PyData) (i : Nat) (m : PyData) (x3 x4 : Option Slot), lf m = true → lfs ks = true →
    ∃ y3 y4, forGo (tgPair 4 3) endB (enumFrom (i + 1) ks) [r0, r1, r2, x3, x4, r5, some (.loc m)] = some (.next [r0, r1, r2, y3, y4, r5, some (.loc (ks.foldl (wrap "either") m))])
  | [], i, m, x3, x4, _, _ => ⟨x3, x4, rfl⟩
  | k :: ks, i, m, x3, x4, hm, hk => by
    have hk' : lf k = true ∧ lfs ks = true := by simpa [lfs] using hk
    have hw := wrap_lf "either" hm hk'.1
    obtain ⟨y3, y4, e⟩ := end_rest r0 r1 r2 r5 ks (i + 1) (wrap "either" m k) (some (.loc k)) (some (.loc (.int ((i + 1 : Nat) : Int)))) hw hk'.2
    refine ⟨y3, y4, ?_⟩
    have t : endB [r0, r1, r2, some (.loc k), some (.loc (.int ((i + 1 : Nat) : Int))), r5, some (.loc m)] = some (.next [r0, r1, r2, some (.loc k), some (.loc (.int ((i + 1 : Nat) : Int))), r5, some (.loc (wrap "either" m k))]) := by
      have h0 := succ_ne i
      unfold wrap at hw ⊢
      simp only [endB, sSet, eIf, eEq, e2, eVar, eC, bindE, List.getElem?_cons_succ, List.getElem?_cons_zero, eqII, h0, Option.map_some, eTup, eArgs, bindI, bindS, asg_lf hw, List.set_cons_succ, List.set_cons_zero]
    simp only [enumFrom, forGo, tgPair, List.set_cons_succ, List.set_cons_zero, t, List.foldl_cons]
    exact e
theorem lfs_kr (rs : List (List Int)) : lfs ((rs.map kindD).reverse) = true := by rw [← List.map_reverse]; exact lfs_kinds _
theorem end_ok (r0 r1 r2 r5 : Option Slot) (rs : List (List Int)) (x3 x4 : Option Slot) :
    ∃ y3 y4, forGo (tgPair 4 3) endB (enumFrom 0 ((rs.map kindD).reverse)) [r0, r1, r2, x3, x4, r5, some (.loc (.tuple [.str "none"]))] = some (.next [r0, r1, r2, y3, y4, r5, some (.loc (enc (pk rs)))]) := by
  rw [← List.map_reverse]
  generalize hq : rs.reverse = q
  have hr : rs = q.reverse := by rw [← hq, List.reverse_reverse]
  subst hr
  clear hq
  cases q with
  | nil => exact ⟨x3, x4, rfl⟩
  | cons x xs =>
    have hx : lf (kindD x) = true := enc_lf _
    obtain ⟨y3, y4, e⟩ := end_rest r0 r1 r2 r5 (xs.map kindD) 0 (kindD x) (some (.loc (kindD x))) (some (.loc (.int 0))) hx (lfs_kinds xs)
    refine ⟨y3, y4, ?_⟩
    have hk : enc (pk (x :: xs).reverse) = (xs.map kindD).foldl (wrap "either") (kindD x) := by
      rw [enc_pk _ (by simp), List.reverse_cons, List.map_append, List.map_reverse]
      exact chD_foldl "either" (xs.map kindD) (kindD x)
    rw [hk, ← e]
    have t : endB [r0, r1, r2, some (.loc (kindD x)), some (.loc (.int 0)), r5, some (.loc (.tuple [.str "none"]))] = some (.next [r0, r1, r2, some (.loc (kindD x)), some (.loc (.int 0)), r5, some (.loc (kindD x))]) := by
      simp [endB, sSet, eIf, eEq, e2, eVar, eC, bindE, eqII, bindS, asg_lf hx]
    simp only [List.map_cons, enumFrom, forGo, tgPair, List.set_cons_succ, List.set_cons_zero, Int.cast_ofNat_Int, t]
theorem lplain_ok (n : Nat) (rs : List (List Int)) (h : ∀ r ∈ rs, r.length ≤ 63) (hl : rs.length ≤ 63) : m_law_plain (n + 1) [rowsD rs] = some (.ok (enc (pk rs))) := by
  show runB 7 b_law_plain _ = _
  have shape : b_law_plain = (sSeq (sSet 1 (eLst [])) (sSeq (sForV 0 (tgName 2) rowB) (sSeq (sSet 6 (eTup [(eC (.str "none"))])) (sSeq (sFor (iEnum (eListRev (eVar 1))) (tgPair 4 3) endB) (sRet (eVar 6)))))) := rfl
  rw [shape]
  obtain ⟨y2, y3, y4, y5, e⟩ := rows_loop (some (.par (rowsD rs))) none rs [] none none none none h (by simp; omega)
  rw [List.nil_append] at e
  obtain ⟨z3, z4, e'⟩ := end_ok (some (.par (rowsD rs))) (some (.own (rs.map kindD))) y2 y5 rs y3 y4
  have hb : rs.length ≤ big := by unfold big; omega
  have hd : dListRev (.list (rs.map kindD)) = some (.list ((rs.map kindD).reverse)) := by simp [dListRev, lfs_kinds, hb]
  unfold rowsD at e e' ⊢
  simp [runB, sSeq, sSet, eLst, eArgs, bindI, bindS, asg_own (show lfs [] = true from rfl), lfs, sForV, lfsR, e, eTup, eC, asg, lf, sFor, iEnum, eListRev, e1, eVar, bindE, hd, lfs_kr, e', sRet, enc_lf]
end KT
set_option Elab.async false
set_option linter.all false
set_option maxRecDepth 100000
namespace KT
open PySem
def stirM (c fac : Int) : Int := ((c * fac + 7919) % 2147483647) * ((c * fac + 7919) % 2147483647) % 2147483647 * 40692 % 2147483399
def stirS (c f fac : Int) : Int := f * 1000000000 + stirM c fac / 7
def stirBody : FS := (sSeq (sSet 3 (eMod (eAdd (eMul (eVar 0) (eVar 2)) (eC (.int 7919))) (eC (.int 2147483647)))) (sSeq (sSet 3 (eMod (eMul (eMod (eMul (eVar 3) (eVar 3)) (eC (.int 2147483647))) (eC (.int 40692))) (eC (.int 2147483399)))) (sSet 1 (eAdd (eMul (eVar 1) (ePow (eC (.int 10)) (eC (.int 9)))) (eDiv (eVar 3) (eC (.int 7)))))))
theorem stir_turn (c f fac : Int) (x : Option Slot) (h : fac.natAbs < 2 ^ 64) : stirBody [some (.par (.int c)), some (.loc (.int f)), some (.loc (.int fac)), x] =
    some (.next [some (.par (.int c)), some (.loc (.int (stirS c f fac))), some (.loc (.int fac)), some (.loc (.int (stirM c fac)))]) := by
  have b1 := Int.emod_nonneg (c * fac + 7919) (b := 2147483647) (by decide)
  have b2 := Int.emod_lt_of_pos (c * fac + 7919) (b := 2147483647) (by decide)
  have h1 : CMulD c fac := mulR h
  have h2 : CMulD ((c * fac + 7919) % 2147483647) ((c * fac + 7919) % 2147483647) := mulR (by omega)
  have h3 : ∀ i : Int, CMulD i 40692 := fun i => mulR (by decide)
  have h4 : ∀ i : Int, CMulD i 1000000000 := fun i => mulR (by decide)
  simp [stirBody, sSeq, sSet, eMod, eAdd, eMul, eVar, eC, ePow, eDiv, e2, bindE, bindS, dAdd, dMod, dMul, dDiv, dPow, h1, h2, h3, h4, asg, lf, lim, stirS, stirM]

def stirV (c : Int) : Int := stirS c (stirS c (stirS c (stirS c 0 48271) 69621) 39373) 44488
theorem stir_ok (n : Nat) (c : Int) : m_law_stir (n + 1) [.int c] = some (.ok (.int (stirV c))) := by
  have e : b_law_stir = sSeq (sSet 1 (eC (.int 0))) (sSeq (sFor (iSeq (eLst [(eC (.int 48271)), (eC (.int 69621)), (eC (.int 39373)), (eC (.int 44488))])) (tgName 2) stirBody) (sRet (eVar 1))) := rfl
  unfold m_law_stir
  rw [e]
  simp [runB, sSeq, sSet, eC, bindS, asg, lf, lfs, sFor, iSeq, eLst, eArgs, bindI, forGo, tgName, stir_turn, sRet, eVar, stirV]
def cellV (ns : List Int) (k : Nat) : Int := stirV (ns.getD k 0)
theorem atP_nat {α : Type} {xs : List α} {k : Nat} {v : α} (h : xs[k]? = some v) : atP xs (k : Int) = some v := by
  have hk : k < xs.length := (List.getElem?_eq_some_iff.mp h).1
  unfold atP ixP
  rw [if_pos (by omega), if_pos (by omega)]
  simpa using h
theorem cell_ok (n : Nat) (ns : List Int) (k : Nat) : m_law_cell (n + 2) [.list (ns.map .int), .int (k : Int)] = some (.ok (.int (cellV ns k))) := by
  unfold m_law_cell
  by_cases h : k < ns.length
  · have hx : atP (ns.map PyData.int) (k : Int) = some (.int ns[k]) := atP_nat (by simp [h])
    have hc : (k : Int) < (ns.length : Int) := by omega
    simp [runB, b_law_cell, sSeq, sIf, eLt, e2, eVar, eLen, e1, dLen, dLt, bindE, bindS, hc, sRet, eCall, eArgs, bindI, eIx, dIx, hx, stir_ok, ofRC, lf, cellV, h]
  · have hc : ¬ (k : Int) < (ns.length : Int) := by omega
    have hg : ns[k]? = none := List.getElem?_eq_none (Nat.le_of_not_lt h)
    simp [runB, b_law_cell, sSeq, sIf, eLt, e2, eVar, eLen, e1, dLen, dLt, bindE, bindS, hc, sNext, sRet, eCall, eC, eArgs, bindI, stir_ok, ofRC, lf, cellV, hg]
def drawV (c k b : Int) : Int :=
  let s1 := (c % 2147483629 + 1 + k * 1000003) % 2147483647
  let s2 := s1 * s1 % 2147483647 * 48271 % 2147483629
  let s3 := s2 * s2 % 2147483629 * 40692 % 2147483399
  s3 / 97 % b
theorem drawV_nn {c k b : Int} (h : 0 < b) : 0 ≤ drawV c k b := Int.emod_nonneg _ (by omega)
theorem drawV_lt {c k b : Int} (h : 0 < b) : drawV c k b < b := Int.emod_lt_of_pos _ h
theorem draw_ok (n : Nat) (c k b : Int) (h : 0 < b) : m_law_draw (n + 1) [.int c, .int k, .int b] = some (.ok (.int (drawV c k b))) := by
  have a1 := Int.emod_nonneg (c % 2147483629 + 1 + k * 1000003) (b := 2147483647) (by decide)
  have a2 := Int.emod_lt_of_pos (c % 2147483629 + 1 + k * 1000003) (b := 2147483647) (by decide)
  generalize hs1 : (c % 2147483629 + 1 + k * 1000003) % 2147483647 = s1 at a1 a2
  have b1 := Int.emod_nonneg (s1 * s1 % 2147483647 * 48271) (b := 2147483629) (by decide)
  have b2 := Int.emod_lt_of_pos (s1 * s1 % 2147483647 * 48271) (b := 2147483629) (by decide)
  generalize hs2 : s1 * s1 % 2147483647 * 48271 % 2147483629 = s2 at b1 b2
  have m1 : CMulD k 1000003 := mulR (by decide)
  have m2 : CMulD s1 s1 := mulR (by omega)
  have m3 : ∀ i : Int, CMulD i 48271 := fun i => mulR (by decide)
  have m4 : CMulD s2 s2 := mulR (by omega)
  have m5 : ∀ i : Int, CMulD i 40692 := fun i => mulR (by decide)
  unfold m_law_draw
  simp [runB, b_law_draw, sSeq, sSet, eMod, eAdd, eMul, eVar, eC, eDiv, e2, bindE, bindS, dAdd, dMod, dMul, dDiv, m1, hs1, m2, m3, hs2, m4, m5, asg, lf, lim, sRet, h, drawV]
end KT
set_option Elab.async false
set_option linter.all false
set_option maxRecDepth 100000
namespace KT
open PySem
/-! ### reading the body of a def -/
theorem kind_leaf (n : Nat) (c leaves k : Int) (h : leaves < 2) : ∃ kd : Kd, m_law_kind (n + 2) [.int c, .int leaves, .int k] = some (.ok (enc kd)) ∧ kd.Ok ∧ kd.leaves = 1 := by
  have d0 := drawV_nn (c := c) (k := 5 * k) (b := 12) (by decide)
  have d1 := drawV_lt (c := c) (k := 5 * k) (b := 12) (by decide)
  have e := draw_ok n c (5 * k) 12 (by decide)
  have m5 : CMulD 5 k := mulL (by decide)
  generalize drawV c (5 * k) 12 = w at d0 d1 e
  by_cases w0 : w = 0
  · exact ⟨.none, by unfold m_law_kind; simp [runB, b_law_kind, sSeq, sIf, eLt, e2, eVar, eC, bindE, bindS, dLt, h, sSet, eCall, eArgs, bindI, eMul, dMul, m5, e, ofRC, asg, lf, lfs, eEq, dEq, dEqB, w0, sRet, eTup, enc], trivial, rfl⟩
  · have w0' : (w == 0) = false := by simp [w0]
    by_cases w3 : w < 3
    · exact ⟨.one, by unfold m_law_kind; simp [runB, b_law_kind, sSeq, sIf, eLt, e2, eVar, eC, bindE, bindS, dLt, h, sSet, eCall, eArgs, bindI, eMul, dMul, m5, e, ofRC, asg, lf, lfs, eEq, dEq, dEqB, w0', w3, sNext, sRet, eTup, enc], trivial, rfl⟩
    · refine ⟨.name (w % 4), by unfold m_law_kind; simp [runB, b_law_kind, sSeq, sIf, eLt, e2, eVar, eC, bindE, bindS, dLt, h, sSet, eCall, eArgs, bindI, eMul, dMul, m5, e, ofRC, asg, lf, lfs, eEq, dEq, dEqB, w0', w3, sNext, sRet, eTup, eMod, dMod, enc], ?_, rfl⟩
      show 0 ≤ w % 4 ∧ w % 4 ≤ 3
      omega
theorem kind_ok : ∀ (L n : Nat) (c leaves k : Int), leaves ≤ L → L + 1 ≤ n → ∃ kd : Kd, m_law_kind (n + 1) [.int c, .int leaves, .int k] = some (.ok (enc kd)) ∧ kd.Ok ∧ (kd.leaves : Int) ≤ max leaves 1
  | 0, n + 1, c, leaves, k, h, _ => by
    obtain ⟨kd, e, o, l⟩ := kind_leaf n c leaves k (by omega)
    exact ⟨kd, e, o, by omega⟩
  | L + 1, n + 1, c, leaves, k, h, hn => by
    by_cases h2 : leaves < 2
    · obtain ⟨kd, e, o, l⟩ := kind_leaf n c leaves k h2
      exact ⟨kd, e, o, by omega⟩
    · have m5 : CMulD 5 k := mulL (by decide)
      have m2 : CMulD 2 k := mulL (by decide)
      have e1 := draw_ok n c (5 * k + 1) (leaves - 1) (by omega)
      have d0 := drawV_nn (c := c) (k := 5 * k + 1) (b := leaves - 1) (by omega)
      have d1 := drawV_lt (c := c) (k := 5 * k + 1) (b := leaves - 1) (by omega)
      have e2' := draw_ok n c (5 * k + 2) 2 (by decide)
      have d2 := drawV_nn (c := c) (k := 5 * k + 2) (b := 2) (by decide)
      have d3 := drawV_lt (c := c) (k := 5 * k + 2) (b := 2) (by decide)
      generalize drawV c (5 * k + 1) (leaves - 1) = u at d0 d1 e1
      generalize drawV c (5 * k + 2) 2 = w at d2 d3 e2'
      obtain ⟨ka, ea, oa, la⟩ := kind_ok L n c (1 + u) (2 * k) (by omega) (by omega)
      obtain ⟨kb, eb, ob, lb⟩ := kind_ok L n c (leaves - (1 + u)) (2 * k + 1) (by omega) (by omega)
      have hw : w = 0 ∨ w = 1 := by omega
      rcases hw with rfl | rfl
      · refine ⟨.either ka kb, ?_, ⟨oa, ob⟩, by simp only [Kd.leaves]; push_cast; omega⟩
        unfold m_law_kind
        simp [runB, b_law_kind, sSeq, sIf, eLt, e2, eVar, eC, bindE, bindS, dLt, h2, sSet, eCall, eArgs, bindI, eMul, dMul, m5, m2, e1, e2', ea, eb, ofRC, asg, lf, lfs, sNext, eAdd, dAdd, eSub, dSub, eIx, eLst, dIx, atP, ixP, sRet, eTup, enc, enc_lf]
      · refine ⟨.both ka kb, ?_, ⟨oa, ob⟩, by simp only [Kd.leaves]; push_cast; omega⟩
        unfold m_law_kind
        simp [runB, b_law_kind, sSeq, sIf, eLt, e2, eVar, eC, bindE, bindS, dLt, h2, sSet, eCall, eArgs, bindI, eMul, dMul, m5, m2, e1, e2', ea, eb, ofRC, asg, lf, lfs, sNext, eAdd, dAdd, eSub, dSub, eIx, eLst, dIx, atP, ixP, sRet, eTup, enc, enc_lf]
end KT
set_option Elab.async false
set_option linter.all false
set_option maxRecDepth 100000
namespace KT
open PySem PySem.Spec PyProof.Rows
/-! ### k10: the law -/
theorem ok_swap : PyData.strOk "swap" = true := by decide +kernel
theorem ok_group : PyData.strOk "group" = true := by decide +kernel
theorem ok_spread : PyData.strOk "spread" = true := by decide +kernel
theorem ok_drop : PyData.strOk "drop" = true := by decide +kernel
theorem go_words : ∀ (row : TRow) (k c : Kd), goK k row = some c → ∀ t ∈ row, PyData.strOk t.1 = true
  | [], k, c, _, t, ht => by cases ht
  | (w, p) :: row, k, c, h, t, ht => by
    simp only [goK] at h
    cases e : turnK k w p with
    | none => rw [e] at h; cases h
    | some d =>
      rw [e] at h
      rcases List.mem_cons.mp ht with rfl | ht
      · obtain ⟨x, y, _, hh, _⟩ := turn_split e
        rcases word5 w with rfl | rfl | rfl | rfl | hno
        · exact ok_swap
        · exact ok_group
        · exact ok_spread
        · exact ok_drop
        · rw [here_no w x hno] at hh; cases hh
      · exact go_words row d c h t ht
theorem eqvR : ∀ k : Kd, PyData.eqv (enc k) (enc k) = true
  | .none => by simp [enc, PyData.eqv, PyData.eqvAll]
  | .one => by simp [enc, PyData.eqv, PyData.eqvAll]
  | .name i => by simp [enc, PyData.eqv, PyData.eqvAll]
  | .either a b => by simp [enc, PyData.eqv, PyData.eqvAll, eqvR a, eqvR b]
  | .both a b => by simp [enc, PyData.eqv, PyData.eqvAll, eqvR a, eqvR b]
theorem eq_self (k : Kd) (h : sE k ≤ 40) : dEqB (enc k) (enc k) = some true := by
  have hd : (enc k).depth ≤ 60 := Nat.le_trans (enc_depth k) (Nat.le_trans (sE_leaves k) (by omega))
  have h1 : eqOk (enc k) (enc k) = true := by simp [eqOk, enc_lay, hd]
  have h2 : PyData.eqv (enc k) (enc k) = true := eqvR k
  cases k <;> simp only [enc] at h1 h2 ⊢ <;> simp only [dEqB, h1, h2, if_true]
def k10B (gg gr : FC) : FS := (sSeq (sSet 4 (eCall gr [(eVar 1)])) (sSeq (sIf (eNe (eCall gg [(eVar 1), (eVar 4)]) (eVar 2)) (sRet (eC (.bool false))) sNext) (sAppend 4 (eTup [(eC (.str "drop")), (eTup [(eC (.int 0))])]))))
theorem k10B_ok (gg gr : FC) (k c : Kd) (R : List PyData) (r0 r3 r4 : Option Slot) (h1 : gr [enc k] = some (.ok (.list R))) (h2 : gg [enc k, .list R] = some (.ok (enc c))) (hl : lfs R = true) (hc : dEqB (enc c) (enc c) = some true) (hb : R.length < big) :
    k10B gg gr [r0, some (.loc (enc k)), some (.loc (enc c)), r3, r4] = some (.next [r0, some (.loc (enc k)), some (.loc (enc c)), r3, some (.own (R ++ [.tuple [.str "drop", .tuple [.int 0]]]))]) := by
  have hne : dNe (enc c) (enc c) = some (.bool false) := by unfold dNe; rw [hc]; rfl
  have ha := asg_own hl
  simp only [k10B, sSeq, sSet, eCall, eArgs, eVar, bindI, bindS, List.getElem?_cons_succ, List.getElem?_cons_zero, h1, ofRC, ha, Option.map_some, List.set_cons_succ, List.set_cons_zero]
  simp [sIf, eNe, e2, eCall, eArgs, eVar, bindI, bindE, bindS, h2, ofRC, hne, sNext, sAppend, eTup, eC, lf, lfs, hb]
theorem law_true (ns : List Int) (_ : ns.length ≤ 63) : m_law 130 [.list (ns.map .int)] = some (.ok (.bool true)) := by
  show runB 5 (b_law (m_law_gone 129) (m_row_to_plain 129) (m_law_plain 129) (m_law_bundles 129) (m_law_kind 129) (m_law_cell 129)) [.list (ns.map .int)] = _
  have c0 := cell_ok 127 ns 0
  have c1 := cell_ok 127 ns 1
  simp only [Nat.reduceAdd, Int.cast_ofNat_Int] at c0 c1
  generalize cellV ns 0 = v0 at c0
  generalize cellV ns 1 = v1 at c1
  have m7 : 0 ≤ v1 % 7 ∧ v1 % 7 < 7 := by omega
  obtain ⟨k, ek, ok, lk⟩ := kind_ok 8 128 v0 (1 + v1 % 7) 1 (by omega) (by omega)
  have hl7 : k.leaves ≤ 7 := by omega
  have hs : sE k ≤ 40 := Nat.le_trans (kd_E k hl7).2 (ts_max _ hl7)
  have hF := fit8 k (by omega)
  have h18 := lb_18 k hF
  have hlb := lbundles_ok k 129 (by omega) (by omega) hF
  have hrow : ∀ r ∈ lb k, r.length ≤ 63 := fun r hr => by have := lb_row k r hr; omega
  have hpl := lplain_ok 128 (lb k) hrow (by omega)
  obtain ⟨row, p1, p2, p3⟩ := row_to_plain_ok k 129 hs h18 (by omega)
  have g1 := gone_law_ok 87 k (pk (lb k)) row p2 hs (go_words row _ _ p2)
  have hs2 : sE (pk (lb k)) ≤ 40 := Nat.le_trans (go_E _ _ _ p2) hs
  have e2' : lb (pk (lb k)) = lb k := go_lb _ _ _ p2
  have hL2 : (pk (lb k)).leaves ≤ 40 := Nat.le_trans (sE_leaves _) hs2
  obtain ⟨row2, q1, q2, q3⟩ := row_to_plain_ok (pk (lb k)) 129 hs2 (by rw [e2']; exact h18) (by omega)
  rw [e2'] at q2
  have g2 := gone_law_ok 87 (pk (lb k)) (pk (lb k)) row2 q2 hs2 (go_words row2 _ _ q2)
  simp only [Nat.reduceAdd] at g1 g2 hpl
  have hself := eq_self _ hs2
  have hlen : (encW [] row).length < big := by rw [encW_len]; exact Nat.lt_of_le_of_lt p3 (by decide)
  have body := fun r0 r3 r4 => k10B_ok (m_law_gone 129) (m_row_to_plain 129) k (pk (lb k)) (encW [] row) r0 r3 r4 p1 g1 (lfs_W [] row) hself hlen
  have lk' := enc_lf k
  have ld := enc_lf (pk (lb k))
  have hmod : dMod (.int v1) (.int 7) = some (.int (v1 % 7)) := mod_ok (by decide)
  have e : b_law (m_law_gone 129) (m_row_to_plain 129) (m_law_plain 129) (m_law_bundles 129) (m_law_kind 129) (m_law_cell 129) = (sSeq (sSet 1 (eCall (m_law_kind 129) [(eCall (m_law_cell 129) [(eVar 0), (eC (.int 0))]), (eAdd (eC (.int 1)) (eMod (eCall (m_law_cell 129) [(eVar 0), (eC (.int 1))]) (eC (.int 7)))), (eC (.int 1))])) (sSeq (sSet 2 (eCall (m_law_plain 129) [(eCall (m_law_bundles 129) [(eVar 1)])])) (sSeq (sFor (iR1 (eC (.int 2))) (tgName 3) (k10B (m_law_gone 129) (m_row_to_plain 129))) (sRet (eEq (eCall (m_law_gone 129) [(eVar 2), (eCall (m_row_to_plain 129) [(eVar 2)])]) (eVar 2)))))) := rfl
  have s1 : sSet 1 (eCall (m_law_kind 129) [(eCall (m_law_cell 129) [(eVar 0), (eC (.int 0))]), (eAdd (eC (.int 1)) (eMod (eCall (m_law_cell 129) [(eVar 0), (eC (.int 1))]) (eC (.int 7)))), (eC (.int 1))]) [some (.par (.list (ns.map .int))), none, none, none, none] = some (.next [some (.par (.list (ns.map .int))), some (.loc (enc k)), none, none, none]) := by
    simp [sSet, eCall, eArgs, eVar, eC, bindI, bindE, bindS, c0, c1, ofRC, eAdd, eMod, e2, hmod, addII, ek, asg, lk']
  have s2 : sSet 2 (eCall (m_law_plain 129) [(eCall (m_law_bundles 129) [(eVar 1)])]) [some (.par (.list (ns.map .int))), some (.loc (enc k)), none, none, none] = some (.next [some (.par (.list (ns.map .int))), some (.loc (enc k)), some (.loc (enc (pk (lb k)))), none, none]) := by
    simp [sSet, eCall, eArgs, eVar, bindI, bindS, hlb, hpl, ofRC, asg, ld]
  generalize PyData.list (ns.map .int) = D at *
  generalize pk (lb k) = c at *
  have s3 : ∃ r3 r4, sFor (iR1 (eC (.int 2))) (tgName 3) (k10B (m_law_gone 129) (m_row_to_plain 129)) [some (.par D), some (.loc (enc k)), some (.loc (enc c)), none, none] = some (.next [some (.par D), some (.loc (enc k)), some (.loc (enc c)), r3, r4]) := by
    have hi : (iR1 (eC (.int 2))) [some (.par D), some (.loc (enc k)), some (.loc (enc c)), none, none] = some (.ok 2 [.int 0, .int 1]) := rfl
    refine ⟨some (.loc (.int 1)), some (.own (encW [] row ++ [.tuple [.str "drop", .tuple [.int 0]]])), ?_⟩
    unfold sFor
    rw [hi]
    show forGo (tgName 3) _ _ _ = _
    rw [for_next rfl (body (some (.par D)) (some (.loc (.int 0))) none), for_next rfl (body (some (.par D)) (some (.loc (.int 1))) _)]
    rfl
  obtain ⟨r3, r4, s3⟩ := s3
  have hq : dEq (enc c) (enc c) = some (.bool true) := by unfold dEq; rw [hself]; rfl
  have s4 : sRet (eEq (eCall (m_law_gone 129) [(eVar 2), (eCall (m_row_to_plain 129) [(eVar 2)])]) (eVar 2)) [some (.par D), some (.loc (enc k)), some (.loc (enc c)), r3, r4] = some (.ret (.bool true)) := by
    simp [sRet, eEq, e2, eCall, eArgs, eVar, bindI, bindE, bindS, q1, ofRC, g2, hq, lf]
  refine run_ret ?_
  show b_law (m_law_gone 129) (m_row_to_plain 129) (m_law_plain 129) (m_law_bundles 129) (m_law_kind 129) (m_law_cell 129) [some (.par D), none, none, none, none] = _
  rw [e, seq_next s1, seq_next s2, seq_next s3, s4]
end KT
set_option Elab.async false
set_option linter.all false
set_option maxRecDepth 100000
namespace KT
open PySem PySem.Spec PyProof.Rows L2
structure TxtF (K : PySem.W.Frag) (mg : Str → Option Value) : Prop where
  t_law_put : FunT K mg "_law_put" st_law_put ["kind", "path", "piece"]
  t_law_here : FunT K mg "_law_here" st_law_here ["kind", "word"]
  t_law_whole : FunT K mg "_law_whole" st_law_whole ["found"]
  t_law_whole_thing : FunT K mg "_law_whole_thing" st_law_whole_thing ["found"]
  t_law_gone : FunT K mg "_law_gone" st_law_gone ["kind", "row"]
  t_merged : FunT K mg "merged" st_merged ["first", "second", "path", "row"]
  t_in_line : FunT K mg "in_line" st_in_line ["tree", "path", "row"]
  t_is_barren : FunT K mg "is_barren" st_is_barren ["kind"]
  t_barren_tree : FunT K mg "barren_tree" st_barren_tree ["kind", "path", "row"]
  t_spread_tree : FunT K mg "spread_tree" st_spread_tree ["first", "second", "path", "row"]
  t_both_of_trees : FunT K mg "both_of_trees" st_both_of_trees ["first", "second", "path", "row"]
  t_factors_in_line : FunT K mg "factors_in_line" st_factors_in_line ["kind", "path", "row"]
  t_product_tree : FunT K mg "product_tree" st_product_tree ["kind", "path", "row"]
  t_tree_of : FunT K mg "tree_of" st_tree_of ["kind", "path", "row"]
  t_row_to_plain : FunT K mg "row_to_plain" st_row_to_plain ["kind"]
  t_law_plain : FunT K mg "_law_plain" st_law_plain ["rows"]
  t_law_bundles : FunT K mg "_law_bundles" st_law_bundles ["kind"]
  t_law_draw : FunT K mg "_law_draw" st_law_draw ["cell", "k", "bound"]
  t_law_kind : FunT K mg "_law_kind" st_law_kind ["cell", "leaves", "k"]
  t_law_stir : FunT K mg "_law_stir" st_law_stir ["cell"]
  t_law_cell : FunT K mg "_law_cell" st_law_cell ["script", "k"]
  t_law : FunT K mg "law" st_law ["script"]
structure ClsF (K : PySem.W.Frag) (mg : Str → Option Value) (cv : Nat → Value) (pp : Params) : Prop where
  nought : True
  N_sorted : mg "sorted" = none
structure AllF (P : Program) (w : World) (K : PySem.W.Frag) (mg : Str → Option Value) (base : Heap) (cv : Nat → Value) (n : Nat) : Prop where
  f_law_put : FnF (CX1 P w) P w K mg base cv n "_law_put" 3 (m_law_put n)
  f_law_here : FnF (CX1 P w) P w K mg base cv n "_law_here" 2 (m_law_here n)
  f_law_whole : FnF (CX1 P w) P w K mg base cv n "_law_whole" 1 (m_law_whole n)
  f_law_whole_thing : FnF (CX1 P w) P w K mg base cv n "_law_whole_thing" 1 (m_law_whole_thing n)
  f_law_gone : FnF (CX1 P w) P w K mg base cv n "_law_gone" 2 (m_law_gone n)
  f_merged : FnR (CX1 P w) P w K mg base cv n "merged" 4 (m_merged n)
  f_in_line : FnR (CX1 P w) P w K mg base cv n "in_line" 3 (m_in_line n)
  f_is_barren : FnF (CX1 P w) P w K mg base cv n "is_barren" 1 (m_is_barren n)
  f_barren_tree : FnR (CX1 P w) P w K mg base cv n "barren_tree" 3 (m_barren_tree n)
  f_spread_tree : FnR (CX1 P w) P w K mg base cv n "spread_tree" 4 (m_spread_tree n)
  f_both_of_trees : FnR (CX1 P w) P w K mg base cv n "both_of_trees" 4 (m_both_of_trees n)
  f_factors_in_line : FnR (CX1 P w) P w K mg base cv n "factors_in_line" 3 (m_factors_in_line n)
  f_product_tree : FnR (CX1 P w) P w K mg base cv n "product_tree" 3 (m_product_tree n)
  f_tree_of : FnR (CX1 P w) P w K mg base cv n "tree_of" 3 (m_tree_of n)
  f_row_to_plain : FnF (CX1 P w) P w K mg base cv n "row_to_plain" 1 (m_row_to_plain n)
  f_law_plain : FnF (CX1 P w) P w K mg base cv n "_law_plain" 1 (m_law_plain n)
  f_law_bundles : FnF (CX1 P w) P w K mg base cv n "_law_bundles" 1 (m_law_bundles n)
  f_law_draw : FnF (CX1 P w) P w K mg base cv n "_law_draw" 3 (m_law_draw n)
  f_law_kind : FnF (CX1 P w) P w K mg base cv n "_law_kind" 3 (m_law_kind n)
  f_law_stir : FnF (CX1 P w) P w K mg base cv n "_law_stir" 1 (m_law_stir n)
  f_law_cell : FnF (CX1 P w) P w K mg base cv n "_law_cell" 2 (m_law_cell n)
  f_law : FnF (CX1 P w) P w K mg base cv n "law" 1 (m_law n)
section
variable {P : Program} {w : World} {K : PySem.W.Frag} {mg : Str → Option Value} {base : Heap} {cv : Nat → Value}
theorem all_0 (T : TxtF K mg) : AllF P w K mg base cv 0 := ⟨fnF0 T.t_law_put, fnF0 T.t_law_here, fnF0 T.t_law_whole, fnF0 T.t_law_whole_thing, fnF0 T.t_law_gone, fnR0 T.t_merged, fnR0 T.t_in_line, fnF0 T.t_is_barren, fnR0 T.t_barren_tree, fnR0 T.t_spread_tree, fnR0 T.t_both_of_trees, fnR0 T.t_factors_in_line, fnR0 T.t_product_tree, fnR0 T.t_tree_of, fnF0 T.t_row_to_plain, fnF0 T.t_law_plain, fnF0 T.t_law_bundles, fnF0 T.t_law_draw, fnF0 T.t_law_kind, fnF0 T.t_law_stir, fnF0 T.t_law_cell, fnF0 T.t_law⟩
theorem all_S {n : Nat} (M : MF mg) (T : TxtF K mg) (C : ClsF K mg cv w.params) (A : AllF P w K mg base cv n) : AllF P w K mg base cv (n + 1) :=
  ⟨fnFS T.t_law_put fun f fd F => ok_law_put M F A.f_law_put,
  fnFS T.t_law_here fun f fd F => ok_law_here M F,
  fnFS T.t_law_whole fun f fd F => ok_law_whole M F,
  fnFS T.t_law_whole_thing fun f fd F => ok_law_whole_thing M F A.f_law_whole,
  fnFS T.t_law_gone fun f fd F => ok_law_gone M F A.f_law_put A.f_law_here A.f_law_whole_thing,
  fnRS T.t_merged fun f fd F => ok_merged M F,
  fnRS T.t_in_line fun f fd F => ok_in_line M F A.f_merged A.f_in_line,
  fnFS T.t_is_barren fun f fd F => ok_is_barren M F A.f_is_barren,
  fnRS T.t_barren_tree fun f fd F => ok_barren_tree M F A.f_is_barren A.f_tree_of,
  fnRS T.t_spread_tree fun f fd F => ok_spread_tree M F A.f_both_of_trees,
  fnRS T.t_both_of_trees fun f fd F => ok_both_of_trees M F A.f_merged A.f_spread_tree,
  fnRS T.t_factors_in_line fun f fd F => ok_factors_in_line M F A.f_merged A.f_factors_in_line,
  fnRS T.t_product_tree fun f fd F => ok_product_tree M F A.f_both_of_trees A.f_tree_of A.f_factors_in_line,
  fnRS T.t_tree_of fun f fd F => ok_tree_of M F A.f_tree_of A.f_is_barren A.f_barren_tree A.f_product_tree,
  fnFS T.t_row_to_plain fun f fd F => ok_row_to_plain M F A.f_in_line A.f_tree_of,
  fnFS T.t_law_plain fun f fd F => ok_law_plain M F,
  fnFS T.t_law_bundles fun f fd F => ok_law_bundles M F A.f_law_bundles C.N_sorted,
  fnFS T.t_law_draw fun f fd F => ok_law_draw M F,
  fnFS T.t_law_kind fun f fd F => ok_law_kind M F A.f_law_kind A.f_law_draw,
  fnFS T.t_law_stir fun f fd F => ok_law_stir M F,
  fnFS T.t_law_cell fun f fd F => ok_law_cell M F A.f_law_stir,
  fnFS T.t_law fun f fd F => ok_law M F A.f_law_gone A.f_row_to_plain A.f_law_plain A.f_law_bundles A.f_law_kind A.f_law_cell⟩
theorem all_n (M : MF mg) (T : TxtF K mg) (C : ClsF K mg cv w.params) : ∀ n, AllF P w K mg base cv n
  | 0 => all_0 T
  | n + 1 => all_S M T C (all_n M T C n)
theorem law_fn {f : Addr} {fd : FuncData} (M : MF mg) (T : TxtF K mg) (C : ClsF K mg cv w.params) (F : Fun K "law" "law" st_law f fd) : FnOk P w K mg base (CX1 P w) 130 f fd ["script"] (spD cv 1 (m_law 130)) :=
  have A := all_n (P := P) (w := w) (base := base) M T C 129
  ok_law M F A.f_law_gone A.f_row_to_plain A.f_law_plain A.f_law_bundles A.f_law_kind A.f_law_cell
set_option maxHeartbeats 0 in
theorem fin_mk {h : Heap} (X : K.In h) (G : h.Ns mainGlobals mg)
    {f1 : Addr} {od1 an1 : Option Addr} {sl1 : Array (Option Value)} {oc1 kV1 dc1 pm1 cd1 ct1 : Value}
    (a1 : PySem.W.nsIn K mainGlobals "_law_put" = some (some (.ref f1))) (l1 : K.lookup f1 = some ⟨oc1, od1, .func (PySem.W.fnOf "_law_put" "_law_put" (defArgs st_law_put) (defBody st_law_put) (defScope st_law_put) .none kV1 dc1 pm1 an1 cd1 ct1), sl1⟩) (c1 : PySem.W.codeIn K cd1 "_law_put" = true) (k1 : PySem.W.keepIn K (.ref f1) = true)
    {f2 : Addr} {od2 an2 : Option Addr} {sl2 : Array (Option Value)} {oc2 kV2 dc2 pm2 cd2 ct2 : Value}
    (a2 : PySem.W.nsIn K mainGlobals "_law_here" = some (some (.ref f2))) (l2 : K.lookup f2 = some ⟨oc2, od2, .func (PySem.W.fnOf "_law_here" "_law_here" (defArgs st_law_here) (defBody st_law_here) (defScope st_law_here) .none kV2 dc2 pm2 an2 cd2 ct2), sl2⟩) (c2 : PySem.W.codeIn K cd2 "_law_here" = true) (k2 : PySem.W.keepIn K (.ref f2) = true)
    {f3 : Addr} {od3 an3 : Option Addr} {sl3 : Array (Option Value)} {oc3 kV3 dc3 pm3 cd3 ct3 : Value}
    (a3 : PySem.W.nsIn K mainGlobals "_law_whole" = some (some (.ref f3))) (l3 : K.lookup f3 = some ⟨oc3, od3, .func (PySem.W.fnOf "_law_whole" "_law_whole" (defArgs st_law_whole) (defBody st_law_whole) (defScope st_law_whole) .none kV3 dc3 pm3 an3 cd3 ct3), sl3⟩) (c3 : PySem.W.codeIn K cd3 "_law_whole" = true) (k3 : PySem.W.keepIn K (.ref f3) = true)
    {f4 : Addr} {od4 an4 : Option Addr} {sl4 : Array (Option Value)} {oc4 kV4 dc4 pm4 cd4 ct4 : Value}
    (a4 : PySem.W.nsIn K mainGlobals "_law_whole_thing" = some (some (.ref f4))) (l4 : K.lookup f4 = some ⟨oc4, od4, .func (PySem.W.fnOf "_law_whole_thing" "_law_whole_thing" (defArgs st_law_whole_thing) (defBody st_law_whole_thing) (defScope st_law_whole_thing) .none kV4 dc4 pm4 an4 cd4 ct4), sl4⟩) (c4 : PySem.W.codeIn K cd4 "_law_whole_thing" = true) (k4 : PySem.W.keepIn K (.ref f4) = true)
    {f5 : Addr} {od5 an5 : Option Addr} {sl5 : Array (Option Value)} {oc5 kV5 dc5 pm5 cd5 ct5 : Value}
    (a5 : PySem.W.nsIn K mainGlobals "_law_gone" = some (some (.ref f5))) (l5 : K.lookup f5 = some ⟨oc5, od5, .func (PySem.W.fnOf "_law_gone" "_law_gone" (defArgs st_law_gone) (defBody st_law_gone) (defScope st_law_gone) .none kV5 dc5 pm5 an5 cd5 ct5), sl5⟩) (c5 : PySem.W.codeIn K cd5 "_law_gone" = true) (k5 : PySem.W.keepIn K (.ref f5) = true)
    {f6 : Addr} {od6 an6 : Option Addr} {sl6 : Array (Option Value)} {oc6 kV6 dc6 pm6 cd6 ct6 : Value}
    (a6 : PySem.W.nsIn K mainGlobals "merged" = some (some (.ref f6))) (l6 : K.lookup f6 = some ⟨oc6, od6, .func (PySem.W.fnOf "merged" "merged" (defArgs st_merged) (defBody st_merged) (defScope st_merged) .none kV6 dc6 pm6 an6 cd6 ct6), sl6⟩) (c6 : PySem.W.codeIn K cd6 "merged" = true) (k6 : PySem.W.keepIn K (.ref f6) = true)
    {f7 : Addr} {od7 an7 : Option Addr} {sl7 : Array (Option Value)} {oc7 kV7 dc7 pm7 cd7 ct7 : Value}
    (a7 : PySem.W.nsIn K mainGlobals "in_line" = some (some (.ref f7))) (l7 : K.lookup f7 = some ⟨oc7, od7, .func (PySem.W.fnOf "in_line" "in_line" (defArgs st_in_line) (defBody st_in_line) (defScope st_in_line) .none kV7 dc7 pm7 an7 cd7 ct7), sl7⟩) (c7 : PySem.W.codeIn K cd7 "in_line" = true) (k7 : PySem.W.keepIn K (.ref f7) = true)
    {f8 : Addr} {od8 an8 : Option Addr} {sl8 : Array (Option Value)} {oc8 kV8 dc8 pm8 cd8 ct8 : Value}
    (a8 : PySem.W.nsIn K mainGlobals "is_barren" = some (some (.ref f8))) (l8 : K.lookup f8 = some ⟨oc8, od8, .func (PySem.W.fnOf "is_barren" "is_barren" (defArgs st_is_barren) (defBody st_is_barren) (defScope st_is_barren) .none kV8 dc8 pm8 an8 cd8 ct8), sl8⟩) (c8 : PySem.W.codeIn K cd8 "is_barren" = true) (k8 : PySem.W.keepIn K (.ref f8) = true)
    {f9 : Addr} {od9 an9 : Option Addr} {sl9 : Array (Option Value)} {oc9 kV9 dc9 pm9 cd9 ct9 : Value}
    (a9 : PySem.W.nsIn K mainGlobals "barren_tree" = some (some (.ref f9))) (l9 : K.lookup f9 = some ⟨oc9, od9, .func (PySem.W.fnOf "barren_tree" "barren_tree" (defArgs st_barren_tree) (defBody st_barren_tree) (defScope st_barren_tree) .none kV9 dc9 pm9 an9 cd9 ct9), sl9⟩) (c9 : PySem.W.codeIn K cd9 "barren_tree" = true) (k9 : PySem.W.keepIn K (.ref f9) = true)
    {f10 : Addr} {od10 an10 : Option Addr} {sl10 : Array (Option Value)} {oc10 kV10 dc10 pm10 cd10 ct10 : Value}
    (a10 : PySem.W.nsIn K mainGlobals "spread_tree" = some (some (.ref f10))) (l10 : K.lookup f10 = some ⟨oc10, od10, .func (PySem.W.fnOf "spread_tree" "spread_tree" (defArgs st_spread_tree) (defBody st_spread_tree) (defScope st_spread_tree) .none kV10 dc10 pm10 an10 cd10 ct10), sl10⟩) (c10 : PySem.W.codeIn K cd10 "spread_tree" = true) (k10 : PySem.W.keepIn K (.ref f10) = true)
    {f11 : Addr} {od11 an11 : Option Addr} {sl11 : Array (Option Value)} {oc11 kV11 dc11 pm11 cd11 ct11 : Value}
    (a11 : PySem.W.nsIn K mainGlobals "both_of_trees" = some (some (.ref f11))) (l11 : K.lookup f11 = some ⟨oc11, od11, .func (PySem.W.fnOf "both_of_trees" "both_of_trees" (defArgs st_both_of_trees) (defBody st_both_of_trees) (defScope st_both_of_trees) .none kV11 dc11 pm11 an11 cd11 ct11), sl11⟩) (c11 : PySem.W.codeIn K cd11 "both_of_trees" = true) (k11 : PySem.W.keepIn K (.ref f11) = true)
    {f12 : Addr} {od12 an12 : Option Addr} {sl12 : Array (Option Value)} {oc12 kV12 dc12 pm12 cd12 ct12 : Value}
    (a12 : PySem.W.nsIn K mainGlobals "factors_in_line" = some (some (.ref f12))) (l12 : K.lookup f12 = some ⟨oc12, od12, .func (PySem.W.fnOf "factors_in_line" "factors_in_line" (defArgs st_factors_in_line) (defBody st_factors_in_line) (defScope st_factors_in_line) .none kV12 dc12 pm12 an12 cd12 ct12), sl12⟩) (c12 : PySem.W.codeIn K cd12 "factors_in_line" = true) (k12 : PySem.W.keepIn K (.ref f12) = true)
    {f13 : Addr} {od13 an13 : Option Addr} {sl13 : Array (Option Value)} {oc13 kV13 dc13 pm13 cd13 ct13 : Value}
    (a13 : PySem.W.nsIn K mainGlobals "product_tree" = some (some (.ref f13))) (l13 : K.lookup f13 = some ⟨oc13, od13, .func (PySem.W.fnOf "product_tree" "product_tree" (defArgs st_product_tree) (defBody st_product_tree) (defScope st_product_tree) .none kV13 dc13 pm13 an13 cd13 ct13), sl13⟩) (c13 : PySem.W.codeIn K cd13 "product_tree" = true) (k13 : PySem.W.keepIn K (.ref f13) = true)
    {f14 : Addr} {od14 an14 : Option Addr} {sl14 : Array (Option Value)} {oc14 kV14 dc14 pm14 cd14 ct14 : Value}
    (a14 : PySem.W.nsIn K mainGlobals "tree_of" = some (some (.ref f14))) (l14 : K.lookup f14 = some ⟨oc14, od14, .func (PySem.W.fnOf "tree_of" "tree_of" (defArgs st_tree_of) (defBody st_tree_of) (defScope st_tree_of) .none kV14 dc14 pm14 an14 cd14 ct14), sl14⟩) (c14 : PySem.W.codeIn K cd14 "tree_of" = true) (k14 : PySem.W.keepIn K (.ref f14) = true)
    {f15 : Addr} {od15 an15 : Option Addr} {sl15 : Array (Option Value)} {oc15 kV15 dc15 pm15 cd15 ct15 : Value}
    (a15 : PySem.W.nsIn K mainGlobals "row_to_plain" = some (some (.ref f15))) (l15 : K.lookup f15 = some ⟨oc15, od15, .func (PySem.W.fnOf "row_to_plain" "row_to_plain" (defArgs st_row_to_plain) (defBody st_row_to_plain) (defScope st_row_to_plain) .none kV15 dc15 pm15 an15 cd15 ct15), sl15⟩) (c15 : PySem.W.codeIn K cd15 "row_to_plain" = true) (k15 : PySem.W.keepIn K (.ref f15) = true)
    {f16 : Addr} {od16 an16 : Option Addr} {sl16 : Array (Option Value)} {oc16 kV16 dc16 pm16 cd16 ct16 : Value}
    (a16 : PySem.W.nsIn K mainGlobals "_law_plain" = some (some (.ref f16))) (l16 : K.lookup f16 = some ⟨oc16, od16, .func (PySem.W.fnOf "_law_plain" "_law_plain" (defArgs st_law_plain) (defBody st_law_plain) (defScope st_law_plain) .none kV16 dc16 pm16 an16 cd16 ct16), sl16⟩) (c16 : PySem.W.codeIn K cd16 "_law_plain" = true) (k16 : PySem.W.keepIn K (.ref f16) = true)
    {f17 : Addr} {od17 an17 : Option Addr} {sl17 : Array (Option Value)} {oc17 kV17 dc17 pm17 cd17 ct17 : Value}
    (a17 : PySem.W.nsIn K mainGlobals "_law_bundles" = some (some (.ref f17))) (l17 : K.lookup f17 = some ⟨oc17, od17, .func (PySem.W.fnOf "_law_bundles" "_law_bundles" (defArgs st_law_bundles) (defBody st_law_bundles) (defScope st_law_bundles) .none kV17 dc17 pm17 an17 cd17 ct17), sl17⟩) (c17 : PySem.W.codeIn K cd17 "_law_bundles" = true) (k17 : PySem.W.keepIn K (.ref f17) = true)
    {f18 : Addr} {od18 an18 : Option Addr} {sl18 : Array (Option Value)} {oc18 kV18 dc18 pm18 cd18 ct18 : Value}
    (a18 : PySem.W.nsIn K mainGlobals "_law_draw" = some (some (.ref f18))) (l18 : K.lookup f18 = some ⟨oc18, od18, .func (PySem.W.fnOf "_law_draw" "_law_draw" (defArgs st_law_draw) (defBody st_law_draw) (defScope st_law_draw) .none kV18 dc18 pm18 an18 cd18 ct18), sl18⟩) (c18 : PySem.W.codeIn K cd18 "_law_draw" = true) (k18 : PySem.W.keepIn K (.ref f18) = true)
    {f19 : Addr} {od19 an19 : Option Addr} {sl19 : Array (Option Value)} {oc19 kV19 dc19 pm19 cd19 ct19 : Value}
    (a19 : PySem.W.nsIn K mainGlobals "_law_kind" = some (some (.ref f19))) (l19 : K.lookup f19 = some ⟨oc19, od19, .func (PySem.W.fnOf "_law_kind" "_law_kind" (defArgs st_law_kind) (defBody st_law_kind) (defScope st_law_kind) .none kV19 dc19 pm19 an19 cd19 ct19), sl19⟩) (c19 : PySem.W.codeIn K cd19 "_law_kind" = true) (k19 : PySem.W.keepIn K (.ref f19) = true)
    {f20 : Addr} {od20 an20 : Option Addr} {sl20 : Array (Option Value)} {oc20 kV20 dc20 pm20 cd20 ct20 : Value}
    (a20 : PySem.W.nsIn K mainGlobals "_law_stir" = some (some (.ref f20))) (l20 : K.lookup f20 = some ⟨oc20, od20, .func (PySem.W.fnOf "_law_stir" "_law_stir" (defArgs st_law_stir) (defBody st_law_stir) (defScope st_law_stir) .none kV20 dc20 pm20 an20 cd20 ct20), sl20⟩) (c20 : PySem.W.codeIn K cd20 "_law_stir" = true) (k20 : PySem.W.keepIn K (.ref f20) = true)
    {f21 : Addr} {od21 an21 : Option Addr} {sl21 : Array (Option Value)} {oc21 kV21 dc21 pm21 cd21 ct21 : Value}
    (a21 : PySem.W.nsIn K mainGlobals "_law_cell" = some (some (.ref f21))) (l21 : K.lookup f21 = some ⟨oc21, od21, .func (PySem.W.fnOf "_law_cell" "_law_cell" (defArgs st_law_cell) (defBody st_law_cell) (defScope st_law_cell) .none kV21 dc21 pm21 an21 cd21 ct21), sl21⟩) (c21 : PySem.W.codeIn K cd21 "_law_cell" = true) (k21 : PySem.W.keepIn K (.ref f21) = true)
    {f22 : Addr} {od22 an22 : Option Addr} {sl22 : Array (Option Value)} {oc22 kV22 dc22 pm22 cd22 ct22 : Value}
    (a22 : PySem.W.nsIn K mainGlobals "law" = some (some (.ref f22))) (l22 : K.lookup f22 = some ⟨oc22, od22, .func (PySem.W.fnOf "law" "law" (defArgs st_law) (defBody st_law) (defScope st_law) .none kV22 dc22 pm22 an22 cd22 ct22), sl22⟩) (c22 : PySem.W.codeIn K cd22 "law" = true) (k22 : PySem.W.keepIn K (.ref f22) = true)
    (zM : (["len", "int", "bool", "str", "tuple", "list", "isinstance", "range", "enumerate", "zip", "reversed"] : List Str).all (fun x => PySem.W.nsIn K mainGlobals x == some none) = true) (zNsorted : PySem.W.nsIn K mainGlobals "sorted" = some none) :
    FunT K mg "law" st_law ["script"] ∧ ∀ f fd, Fun K "law" "law" st_law f fd → ∀ base : Heap, FnOk P w K mg base (CX1 P w) 130 f fd ["script"] (spD (cvOf K) 1 (m_law 130)) := by
  have t1 : FunT K mg "_law_put" st_law_put ["kind", "path", "piece"] := funT_mk X G a1 l1 c1 k1 fun _ _ _ _ _ _ us hl => by obtain ⟨a, b, c, rfl⟩ := len3 hl; rfl
  have t2 : FunT K mg "_law_here" st_law_here ["kind", "word"] := funT_mk X G a2 l2 c2 k2 fun _ _ _ _ _ _ us hl => by obtain ⟨a, b, rfl⟩ := len2 hl; rfl
  have t3 : FunT K mg "_law_whole" st_law_whole ["found"] := funT_mk X G a3 l3 c3 k3 fun _ _ _ _ _ _ us hl => by obtain ⟨a, rfl⟩ := len1 hl; rfl
  have t4 : FunT K mg "_law_whole_thing" st_law_whole_thing ["found"] := funT_mk X G a4 l4 c4 k4 fun _ _ _ _ _ _ us hl => by obtain ⟨a, rfl⟩ := len1 hl; rfl
  have t5 : FunT K mg "_law_gone" st_law_gone ["kind", "row"] := funT_mk X G a5 l5 c5 k5 fun _ _ _ _ _ _ us hl => by obtain ⟨a, b, rfl⟩ := len2 hl; rfl
  have t6 : FunT K mg "merged" st_merged ["first", "second", "path", "row"] := funT_mk X G a6 l6 c6 k6 fun _ _ _ _ _ _ us hl => by obtain ⟨a, b, c, d, rfl⟩ := len4 hl; rfl
  have t7 : FunT K mg "in_line" st_in_line ["tree", "path", "row"] := funT_mk X G a7 l7 c7 k7 fun _ _ _ _ _ _ us hl => by obtain ⟨a, b, c, rfl⟩ := len3 hl; rfl
  have t8 : FunT K mg "is_barren" st_is_barren ["kind"] := funT_mk X G a8 l8 c8 k8 fun _ _ _ _ _ _ us hl => by obtain ⟨a, rfl⟩ := len1 hl; rfl
  have t9 : FunT K mg "barren_tree" st_barren_tree ["kind", "path", "row"] := funT_mk X G a9 l9 c9 k9 fun _ _ _ _ _ _ us hl => by obtain ⟨a, b, c, rfl⟩ := len3 hl; rfl
  have t10 : FunT K mg "spread_tree" st_spread_tree ["first", "second", "path", "row"] := funT_mk X G a10 l10 c10 k10 fun _ _ _ _ _ _ us hl => by obtain ⟨a, b, c, d, rfl⟩ := len4 hl; rfl
  have t11 : FunT K mg "both_of_trees" st_both_of_trees ["first", "second", "path", "row"] := funT_mk X G a11 l11 c11 k11 fun _ _ _ _ _ _ us hl => by obtain ⟨a, b, c, d, rfl⟩ := len4 hl; rfl
  have t12 : FunT K mg "factors_in_line" st_factors_in_line ["kind", "path", "row"] := funT_mk X G a12 l12 c12 k12 fun _ _ _ _ _ _ us hl => by obtain ⟨a, b, c, rfl⟩ := len3 hl; rfl
  have t13 : FunT K mg "product_tree" st_product_tree ["kind", "path", "row"] := funT_mk X G a13 l13 c13 k13 fun _ _ _ _ _ _ us hl => by obtain ⟨a, b, c, rfl⟩ := len3 hl; rfl
  have t14 : FunT K mg "tree_of" st_tree_of ["kind", "path", "row"] := funT_mk X G a14 l14 c14 k14 fun _ _ _ _ _ _ us hl => by obtain ⟨a, b, c, rfl⟩ := len3 hl; rfl
  have t15 : FunT K mg "row_to_plain" st_row_to_plain ["kind"] := funT_mk X G a15 l15 c15 k15 fun _ _ _ _ _ _ us hl => by obtain ⟨a, rfl⟩ := len1 hl; rfl
  have t16 : FunT K mg "_law_plain" st_law_plain ["rows"] := funT_mk X G a16 l16 c16 k16 fun _ _ _ _ _ _ us hl => by obtain ⟨a, rfl⟩ := len1 hl; rfl
  have t17 : FunT K mg "_law_bundles" st_law_bundles ["kind"] := funT_mk X G a17 l17 c17 k17 fun _ _ _ _ _ _ us hl => by obtain ⟨a, rfl⟩ := len1 hl; rfl
  have t18 : FunT K mg "_law_draw" st_law_draw ["cell", "k", "bound"] := funT_mk X G a18 l18 c18 k18 fun _ _ _ _ _ _ us hl => by obtain ⟨a, b, c, rfl⟩ := len3 hl; rfl
  have t19 : FunT K mg "_law_kind" st_law_kind ["cell", "leaves", "k"] := funT_mk X G a19 l19 c19 k19 fun _ _ _ _ _ _ us hl => by obtain ⟨a, b, c, rfl⟩ := len3 hl; rfl
  have t20 : FunT K mg "_law_stir" st_law_stir ["cell"] := funT_mk X G a20 l20 c20 k20 fun _ _ _ _ _ _ us hl => by obtain ⟨a, rfl⟩ := len1 hl; rfl
  have t21 : FunT K mg "_law_cell" st_law_cell ["script", "k"] := funT_mk X G a21 l21 c21 k21 fun _ _ _ _ _ _ us hl => by obtain ⟨a, b, rfl⟩ := len2 hl; rfl
  have t22 : FunT K mg "law" st_law ["script"] := funT_mk X G a22 l22 c22 k22 fun _ _ _ _ _ _ us hl => by obtain ⟨a, rfl⟩ := len1 hl; rfl
  have M : MF mg := mF_of X G zM
  have C : ClsF K mg (cvOf K) w.params := ⟨trivial, PySem.W.mg_none_of X G zNsorted⟩
  exact ⟨t22, fun f fd F base => law_fn M ⟨t1, t2, t3, t4, t5, t6, t7, t8, t9, t10, t11, t12, t13, t14, t15, t16, t17, t18, t19, t20, t21, t22⟩ C F⟩
end
end KT
open PySem PySem.W PyProof.Rows
set_option maxRecDepth 100000 in
set_option maxHeartbeats 0 in
theorem PySem.Challenge.cw_kindturn_k10_whole_row_to_plain_holds : PySem.Challenge.rw_kindturn_k10_whole_row_to_plain.Holds := by
  w_on; o_law; k_head; (case hw => w_witness2)
  k_fill
  refine KT.walk (l := PySem.Challenge.rw_kindturn_k10_whole_row_to_plain) (g := KT.m_law 130) (N := 130) (st := KT.st_law) rfl rfl ⟨rfl, by decide, by decide⟩ (fun w h Y => PySem.W.kIn_of Y) rfl ?F ?L fun ns hns => KT.law_true ns hns
  case L => intro w; kernel_rfl
  case F =>
    intro w mg h KX G
    refine' KT.fin_mk KX G ?a1 ?l1 ?c1 ?k1 ?a2 ?l2 ?c2 ?k2 ?a3 ?l3 ?c3 ?k3 ?a4 ?l4 ?c4 ?k4 ?a5 ?l5 ?c5 ?k5 ?a6 ?l6 ?c6 ?k6 ?a7 ?l7 ?c7 ?k7 ?a8 ?l8 ?c8 ?k8 ?a9 ?l9 ?c9 ?k9 ?a10 ?l10 ?c10 ?k10 ?a11 ?l11 ?c11 ?k11 ?a12 ?l12 ?c12 ?k12 ?a13 ?l13 ?c13 ?k13 ?a14 ?l14 ?c14 ?k14 ?a15 ?l15 ?c15 ?k15 ?a16 ?l16 ?c16 ?k16 ?a17 ?l17 ?c17 ?k17 ?a18 ?l18 ?c18 ?k18 ?a19 ?l19 ?c19 ?k19 ?a20 ?l20 ?c20 ?k20 ?a21 ?l21 ?c21 ?k21 ?a22 ?l22 ?c22 ?k22 ?zM ?zNsorted
    (case a1 => k_is); (case l1 => k_is); (case c1 => k_is); (case k1 => k_is)
    (case a2 => k_is); (case l2 => k_is); (case c2 => k_is); (case k2 => k_is)
    (case a3 => k_is); (case l3 => k_is); (case c3 => k_is); (case k3 => k_is)
    (case a4 => k_is); (case l4 => k_is); (case c4 => k_is); (case k4 => k_is)
    (case a5 => k_is); (case l5 => k_is); (case c5 => k_is); (case k5 => k_is)
    (case a6 => k_is); (case l6 => k_is); (case c6 => k_is); (case k6 => k_is)
    (case a7 => k_is); (case l7 => k_is); (case c7 => k_is); (case k7 => k_is)
    (case a8 => k_is); (case l8 => k_is); (case c8 => k_is); (case k8 => k_is)
    (case a9 => k_is); (case l9 => k_is); (case c9 => k_is); (case k9 => k_is)
    (case a10 => k_is); (case l10 => k_is); (case c10 => k_is); (case k10 => k_is)
    (case a11 => k_is); (case l11 => k_is); (case c11 => k_is); (case k11 => k_is)
    (case a12 => k_is); (case l12 => k_is); (case c12 => k_is); (case k12 => k_is)
    (case a13 => k_is); (case l13 => k_is); (case c13 => k_is); (case k13 => k_is)
    (case a14 => k_is); (case l14 => k_is); (case c14 => k_is); (case k14 => k_is)
    (case a15 => k_is); (case l15 => k_is); (case c15 => k_is); (case k15 => k_is)
    (case a16 => k_is); (case l16 => k_is); (case c16 => k_is); (case k16 => k_is)
    (case a17 => k_is); (case l17 => k_is); (case c17 => k_is); (case k17 => k_is)
    (case a18 => k_is); (case l18 => k_is); (case c18 => k_is); (case k18 => k_is)
    (case a19 => k_is); (case l19 => k_is); (case c19 => k_is); (case k19 => k_is)
    (case a20 => k_is); (case l20 => k_is); (case c20 => k_is); (case k20 => k_is)
    (case a21 => k_is); (case l21 => k_is); (case c21 => k_is); (case k21 => k_is)
    (case a22 => k_is); (case l22 => k_is); (case c22 => k_is); (case k22 => k_is)
    (case zM => kernel_rfl)
    (case zNsorted => kernel_rfl)

