import PyProof.Rows.All
import Wide.All
import OpenK.AllK
import Wide.FinOn
import HandS.ForMost
import KE.KeyNested
import HandS.TupLen
import HandS.Lambda
import HandS.Nested
import HandS.Conv
import KE.KLam
import KE.SortKeyHeap
import KE.SortData
import HandS.Walk
import HandS.IsInst
import HandS.Sort
import HandS.OwnEq
import HandS.Exc
import HandS.ExcInit
import HandS.ExcIs
import HandS.ExcField
import HandS.ExcValue
import HandS.SuiteRaise
import KE.KExcIs
import KE.KStateDown
import Lean
import HandS.Base
import HandS.Call
import HandS.Ends
import HandS.More
import HandS.Words
import HandS.WordsExc
import HandS.Defaults
import HandS.Head0
import HandS.Head1
import HandS.Head2
import HandS.HeadEnd
import HandS.HeadHook1
import HandS.HeadHook2
import HandS.HeadHook3
import HandS.HeadHook4
import HandS.HeadWalk
import PyProof.ReprRoads
import PyProof.ReprLen
import HandS.List
import HandS.ExcOwn
import PyProof.NeKinds
import PyProof.StrOps2
import HandS.EndTab
import HandS.DictTup
import HandS.Small
import PyProof.ExcBaseAll.ValueError
import KE.KDictWalk
import KE.KDictCopyH
import HandS.MakeKwOnly
import HandS.Strs
import HandS.Wide
import HandS.Text
import HandS.Style
import HandS.Flow
import PySem.Challenge.RW_subjecttags_k10_whole_makers
set_option Elab.async false
section
set_option Elab.async false
set_option linter.all false
set_option maxRecDepth 100000
/-! dicts whose keys are tuples of any depth (None, ints, texts, tuples): get, in, not in, put, made empty -/
namespace QD
open PySem PySem.Spec PyProof.Rows L2

mutual
inductive NV (H : Hp) : NestedKey → V → Prop
  | none : NV H .none .non
  | num (i : Int) : NV H (.num i) (.int i)
  | text (x : Str) : NV H (.text x) (.str x)
  | tup {a : Addr} {vs : List V} {ks : List NestedKey} : H a = some (.tup vs) → NVs H ks vs → NV H (.tup ks) (.ref a)
inductive NVs (H : Hp) : List NestedKey → List V → Prop
  | nil : NVs H [] []
  | cons {k : NestedKey} {v : V} {ks : List NestedKey} {vs : List V} : NV H k v → NVs H ks vs → NVs H (k :: ks) (v :: vs)
end
mutual
theorem NV.to {H H' : Hp} (t : ∀ b xs, H b = some (.tup xs) → H' b = some (.tup xs)) : ∀ (k : NestedKey) (v : V), NV H k v → NV H' k v
  | .none, _, h => by cases h; exact .none
  | .num _, _, h => by cases h; exact .num _
  | .text _, _, h => by cases h; exact .text _
  | .tup ks, _, h => by
    cases h with
    | tup h1 h2 => exact .tup (t _ _ h1) (NVs.to t ks _ h2)
theorem NVs.to {H H' : Hp} (t : ∀ b xs, H b = some (.tup xs) → H' b = some (.tup xs)) : ∀ (ks : List NestedKey) (vs : List V), NVs H ks vs → NVs H' ks vs
  | [], _, h => by cases h; exact .nil
  | k :: ks, _, h => by
    cases h with
    | cons h1 h2 => exact .cons (NV.to t k _ h1) (NVs.to t ks _ h2)
end
section
variable {P : Program} {w : World} {H : Hp} {h : Heap}
mutual
theorem NV.is (ok : HOk P w H h) : ∀ (k : NestedKey) (v : V) (u : Value), NV H k v → RelV v u → NestedIs h k u
  | .none, _, u, n, r => by
    cases n
    have r : u = Value.none := r
    subst r
    exact .none
  | .num _, _, u, n, r => by
    cases n
    obtain ⟨t, r⟩ := r
    subst r
    exact .int _ _
  | .text _, _, u, n, r => by
    cases n
    obtain ⟨t, r⟩ := r
    subst r
    exact .text _ _
  | .tup ks, _, u, n, r => by
    cases n with
    | @tup a vs _ h1 h2 =>
      obtain rfl : u = Value.ref a := r
      obtain ⟨_, its, rv, o, e1, e2, n, e3⟩ := (show ObjOk P w H h a (.tup vs) from ok a _ h1)
      exact .tup e1 e2 e3 (by simpa using NVs.is ok ks vs its h2 rv)
theorem NVs.is (ok : HOk P w H h) : ∀ (ks : List NestedKey) (vs : List V) (us : List Value), NVs H ks vs → Vals vs us → NestedAll h ks us
  | [], _, us, n, r => by
    cases n
    cases r
    exact .nil
  | k :: ks, _, us, n, r => by
    cases n with
    | cons n1 n2 =>
      cases r with
      | cons r1 r2 => exact .cons (NV.is ok k _ _ n1 r1) (NVs.is ok ks _ _ n2 r2)
end
end

/-- what the dict's own object says -/
def Dφ (P : Program) (w : World) (a : Addr) (xs : List (NestedKey × Addr × Value)) : Heap → Prop := fun h =>
  ∃ o es ep, h.get? a = some o ∧ o.ExactDict ∧ o.data = .dict es ep ∧ es.toList = xs.map (entryOfKey (nestedKind P w)) ∧ (xs.map (·.1)).Nodup ∧ xs.length ≤ sizeLine
abbrev Ent (H : Hp) : NestedKey × V → NestedKey × Addr × Value → Prop := fun p q => p.1 = q.1 ∧ NV H p.1 (.ref q.2.1) ∧ p.1.depth ≤ 8 ∧ RelV p.2 q.2.2
/-- at a stands a dict of these keys and values, in their order -/
def DN (P : Program) (w : World) (H : Hp) (a : Addr) (kvs : List (NestedKey × V)) : Prop :=
  (a == sysModules) = false ∧ ∃ xs, H a = some (.ext (Dφ P w a xs)) ∧ Paired (Ent H) kvs xs

theorem DN.to {P : Program} {w : World} {H H' : Hp} {a : Addr} {kvs : List (NestedKey × V)} (d : DN P w H a kvs) (t : ∀ b xs, H b = some (.tup xs) → H' b = some (.tup xs)) (e : H' a = H a) : DN P w H' a kvs := by
  obtain ⟨n, xs, h1, h2⟩ := d
  exact ⟨n, xs, by rw [e]; exact h1, Paired.mapP h2 fun p q z => ⟨z.1, z.2.1.to t, z.2.2⟩⟩

section
variable {H : Hp}
theorem ent_val {kvs : List (NestedKey × V)} {xs : List (NestedKey × Addr × Value)} (r : Paired (Ent H) kvs xs) (k : NestedKey) : RelO (valV kvs k) ((atKey xs k).map (·.2)) := by
  induction r with
  | nil => exact True.intro
  | @cons p q ps qs h t ih =>
    obtain ⟨h1, _, _, h2⟩ := h
    by_cases e : p.1 = k
    · have e' : q.1 = k := h1.symm.trans e
      have b : atKey (q :: qs) k = some q.2 := by simp [atKey, List.find?_cons, e']
      rw [valV_pos e, b]
      exact h2
    · have e' : ¬ q.1 = k := fun z => e (h1.trans z)
      have b : atKey (q :: qs) k = atKey qs k := by simp [atKey, List.find?_cons, e']
      rw [valV_neg e, b]
      exact ih
theorem ent_repl {kvs : List (NestedKey × V)} {xs : List (NestedKey × Addr × Value)} (r : Paired (Ent H) kvs xs) (k : NestedKey) {y : V} {u : Value} (ry : RelV y u) :
    Paired (Ent H) (kvs.map fun kv => if kv.1 = k then (kv.1, y) else kv) (xs.map (putAt k u)) := by
  induction r with
  | nil => exact .nil
  | @cons p q ps qs h t ih =>
    rw [List.map_cons, List.map_cons]
    refine .cons ?_ ih
    obtain ⟨h1, h2, h3, h4⟩ := h
    unfold putAt
    by_cases e : p.1 = k
    · rw [if_pos e, if_pos (h1.symm.trans e)]
      exact ⟨h1, h2, h3, ry⟩
    · rw [if_neg e, if_neg (fun z => e (h1.trans z))]
      exact ⟨h1, h2, h3, h4⟩
theorem ent_put {kvs : List (NestedKey × V)} {xs : List (NestedKey × Addr × Value)} (r : Paired (Ent H) kvs xs) (k : NestedKey) {b : Addr} {y : V} {u : Value} (hb : NV H k (.ref b)) (hd : k.depth ≤ 8) (ry : RelV y u) :
    Paired (Ent H) (putK kvs k y) (storedH xs k b u) := by
  have e : (kvs.any fun kv => decide (kv.1 = k)) = (atKey xs k).isSome := by
    rw [valV_any, (ent_val r k).isSome_eq, Option.isSome_map]
  unfold putK storedH
  rw [e]
  by_cases q : (atKey xs k).isSome = true
  · rw [if_pos q, if_pos q]
    exact ent_repl r k ry
  · rw [if_neg q, if_neg q]
    exact Paired.snoc r ⟨rfl, hb, hd, ry⟩
end

section
variable {P : Program} {w : World} {H : Hp} {h : Heap} {a : Addr} {kvs : List (NestedKey × V)}
theorem ent_is (ok : HOk P w H h) {xs : List (NestedKey × Addr × Value)} (r : Paired (Ent H) kvs xs) : ∀ x ∈ xs, (nestedKind P w).is h x.1 x.2.1 := by
  induction r with
  | nil => intro x hx; exact nomatch hx
  | @cons p q ps qs hq t ih =>
    intro x hx
    rcases List.mem_cons.mp hx with e | hx
    · subst e
      obtain ⟨e1, e2, e3, _⟩ := hq
      rw [e1] at e2 e3
      exact ⟨NV.is ok _ _ _ e2 rfl, e3⟩
    · exact ih x hx
theorem dn_of (ok : HOk P w H h) {xs : List (NestedKey × Addr × Value)} (e : H a = some (.ext (Dφ P w a xs))) (r : Paired (Ent H) kvs xs) : h.DictOfH (nestedKind P w) a xs ∧ xs.length ≤ sizeLine := by
  obtain ⟨⟨o, es, ep, h1, h2, h3, h4, h5, h6⟩, _, _⟩ := ok a _ e
  exact ⟨⟨o, es, ep, h1, h2, h3, h4, ent_is ok r, h5⟩, h6⟩
theorem key_is (ok : HOk P w H h) {k : NestedKey} {b : Addr} (n : NV H k (.ref b)) (hd : k.depth ≤ 8) : (nestedKind P w).is h k b := ⟨NV.is ok _ _ _ n rfl, hd⟩
theorem dn_ok {h' : Heap} {H' : Hp} {xs : List (NestedKey × Addr × Value)} (d : h'.DictOfH (nestedKind P w) a xs) (z : xs.length ≤ sizeLine) : ObjOk P w H' h' a (.ext (Dφ P w a xs)) := by
  obtain ⟨o, es, ep, h1, h2, h3, h4, _, h5⟩ := d
  exact ⟨⟨o, es, ep, h1, h2, h3, h4, h5, z⟩, ⟨o, h1⟩, fun g1 g2 ⟨o, es, ep, k1, k2⟩ st => ⟨o, es, ep, st _ k1, k2⟩⟩
end

section
variable {X : Cx} {o i value : Expr} {td ty tv : TE} {pos pos' : Pos}
/-- {} -/
def tNewN (X : Cx) : TE := fun _ H Q => ∀ p H', H p = none → (∀ b, b ≠ p → H' b = H b) → DN X.prog X.w H' p [] → H' p ≠ none → Q (.ref p) H'
theorem pe_newN : PE X (.Dict [] [] pos) (tNewN X) := ⟨fun pins s σ H Q I h => by
  have nm : (s.heap.objs.size == sysModules) = false := by
    have q := I.big
    refine beq_eq_false_iff_ne.mpr fun e => ?_
    rw [show s.heap.objs.size = sysModules from e] at q
    exact Nat.lt_irrefl _ q
  have new : ObjOk X.prog X.w (upd H s.heap.objs.size (.ext (Dφ X.prog X.w s.heap.objs.size []))) (s.heap.push { cls := .type "dict", data := .dict #[] }) s.heap.objs.size (.ext (Dφ X.prog X.w s.heap.objs.size [])) :=
    dn_ok (Heap.DictOfH.new s.heap) (Nat.zero_le _)
  exact wpAny_Dict_empty ⟨.ref s.heap.objs.size, _, I.laid (a := s.heap.objs.size) (t' := s.toks) (fun _ _ q => Heap.get?_push_of_some _ q) (Nat.le_refl _) new, rfl,
    h _ _ (I.hok.fresh (Nat.le_refl _)) (fun b hb => upd_ne hb) ⟨nm, [], upd_same, .nil⟩ (by rw [upd_same]; exact fun z => nomatch z)⟩⟩

/-- d[k], there; k in d; k not in d -/
def tGetN (X : Cx) (td ty : TE) : TE := fun σ H Q => td σ H fun x H1 => ty σ H1 fun y H2 => ∃ a b kvs k v, x = .ref a ∧ y = .ref b ∧ DN X.prog X.w H2 a kvs ∧ NV H2 k (.ref b) ∧ k.depth ≤ 8 ∧ valV kvs k = some v ∧ Q v H2
def tInN (X : Cx) (neg : Bool) (ty td : TE) : TE := fun σ H Q => ty σ H fun y H1 => td σ H1 fun x H2 => ∃ a b kvs k, x = .ref a ∧ y = .ref b ∧ DN X.prog X.w H2 a kvs ∧ NV H2 k (.ref b) ∧ k.depth ≤ 8 ∧ Q (.bl (if neg then !(valV kvs k).isSome else (valV kvs k).isSome)) H2
theorem room_in1 {A : Around} {P : Program} {w : World} (hu : A.units + 64 < cLine) : (nestedKind P w).room A.in1 := by
  show A.units + 1 + 8 < cLine
  omega
theorem pe_getN (hu : X.A.units + 64 < cLine) (ho : PE X o td) (hi : PE X i ty) (hs : NoSl i) : PE X (.Subscript o i pos) (tGetN X td ty) := by
  refine ⟨fun pins s σ H Q I h => ?_⟩
  refine subD_of PySem.F.slot_dict_getitem.lookup hs (thn (ho.run pins s σ H _ I h) fun u s1 ⟨x, H1, I1, rx, q1⟩ => thn (hi.run pins s1 σ H1 _ I1 q1) fun iv s2 ⟨y, H2, I2, ry, a, b, kvs, k, v, ex, ey, ⟨nm, xs, d1, d2⟩, n, kd, hv, q2⟩ => ?_)
  subst ex ey
  obtain rfl : u = Value.ref a := rx
  obtain rfl : iv = Value.ref b := ry
  obtain ⟨dd, z⟩ := dn_of I2.hok d1 d2
  refine ⟨dd.typeIs, ?_⟩
  obtain ⟨w', hw, rw'⟩ := RelO.some_of (v := v) (o := (atKey xs k).map (·.2)) (by rw [← hv]; exact ent_val d2 k)
  obtain ⟨p, hp, hp2⟩ := Option.map_eq_some_iff.mp hw
  refine wpAny_getItem_heap (room_in1 hu) (key_is I2.hok n kd) dd hp ?_
  rw [hp2]
  exact ⟨v, H2, I2.tok _, rw', q2⟩
theorem pc_inN (hu : X.A.units + 64 < cLine) (hi : PE X i ty) (ho : PE X o td) : PC X .In i o (tInN X false ty td) := by
  refine ⟨fun pins s σ H Q I h => ?_⟩
  refine thn (hi.run pins s σ H _ I h) fun iv s1 ⟨y, H1, I1, ry, q1⟩ => thn (ho.run pins s1 σ H1 _ I1 q1) fun u s2 ⟨x, H2, I2, rx, a, b, kvs, k, ex, ey, ⟨nm, xs, d1, d2⟩, n, kd, q2⟩ => ?_
  subst ex ey
  obtain rfl : u = Value.ref a := rx
  obtain rfl : iv = Value.ref b := ry
  obtain ⟨dd, z⟩ := dn_of I2.hok d1 d2
  refine wpAny_in_heap (room_in1 hu) (key_is I2.hok n kd) nm dd ⟨.bl (atKey xs k).isSome, H2, I2.tok _, rfl, ?_⟩
  have e := (ent_val d2 k).isSome_eq
  rw [Option.isSome_map] at e
  rw [← e]
  exact q2
theorem pc_notinN (hu : X.A.units + 64 < cLine) (hi : PE X i ty) (ho : PE X o td) : PC X .NotIn i o (tInN X true ty td) := by
  refine ⟨fun pins s σ H Q I h => ?_⟩
  refine thn (hi.run pins s σ H _ I h) fun iv s1 ⟨y, H1, I1, ry, q1⟩ => thn (ho.run pins s1 σ H1 _ I1 q1) fun u s2 ⟨x, H2, I2, rx, a, b, kvs, k, ex, ey, ⟨nm, xs, d1, d2⟩, n, kd, q2⟩ => ?_
  subst ex ey
  obtain rfl : u = Value.ref a := rx
  obtain rfl : iv = Value.ref b := ry
  obtain ⟨dd, z⟩ := dn_of I2.hok d1 d2
  refine wpAny_notIn_heap (room_in1 hu) (key_is I2.hok n kd) nm dd ⟨.bl (!(atKey xs k).isSome), H2, I2.tok _, rfl, ?_⟩
  have e := (ent_val d2 k).isSome_eq
  rw [Option.isSome_map] at e
  rw [← e]
  exact q2
/-- d[k] = v -/
def sPutN (X : Cx) (td ty tv : TE) : TS := fun D σ H => tv σ H fun v H1 => td σ H1 fun x H2 => ty σ H2 fun y H3 => ∃ a b kvs k, x = .ref a ∧ y = .ref b ∧ DN X.prog X.w H3 a kvs ∧ NV H3 k (.ref b) ∧ k.depth ≤ 8 ∧ kvs.length < sizeLine ∧
  ∀ H4, (∀ c, c ≠ a → H4 c = H3 c) → DN X.prog X.w H4 a (putK kvs k v) → H4 a ≠ none → D.nx σ H4
theorem ps_putN (hu : X.A.units + 64 < cLine) (ho : PE X o td) (hi : PE X i ty) (hv : PE X value tv) (hs : swapsWith value (some (.Subscript o i pos')) pos.line X.env = pure false) :
    PS X (.Assign [.Subscript o i pos'] value pos) (sPutN X td ty tv) := by
  refine ⟨fun pins s σ H D I h => ?_⟩
  refine wpAny_Assign_Subscript (thn (hv.run pins s σ H _ I h) fun r s1 ⟨v, H1, I1, rv, q1⟩ => thn (ho.run pins s1 σ H1 _ I1 q1) fun u s2 ⟨x, H2, I2, rx, q2⟩ => thn (hi.run pins s2 σ H2 _ I2 q2) fun iv s3 ⟨y, H3, I3, ry, a, b, kvs, k, ex, ey, ⟨nm, xs, d1, d2⟩, n, kd, hl, q3⟩ => ?_) hs
  subst ex ey
  obtain rfl : u = Value.ref a := rx
  obtain rfl : iv = Value.ref b := ry
  obtain ⟨dd, z⟩ := dn_of I3.hok d1 d2
  refine wpAny_setItem_heap (hsz := z) (room_in1 hu) (key_is I3.hok n kd) dd fun h' dd' hs => ?_
  have ep := ent_put d2 k n kd (y := v) (u := r) rv
  have hl' : (storedH xs k b r).length ≤ sizeLine := by
    rw [← Paired.length ep]
    have := length_putK kvs k v
    omega
  have tk : ∀ c ys, H3 c = some (.tup ys) → upd H3 a (.ext (Dφ X.prog X.w a (storedH xs k b r))) c = some (.tup ys) := fun c ys e => by
    rw [upd_ne (ne_of e d1 (fun z => nomatch z))]
    exact e
  have he : ∃ q, h'.get? a = some q := let ⟨q, _, _, hq, _⟩ := dd'; ⟨q, hq⟩
  refine ⟨σ, _, d_write (ob := .ext (Dφ X.prog X.w a (storedH xs k b r))) I3 (by rw [d1]; exact True.intro) hs he (dn_ok dd' hl'), ?_⟩
  exact q3 _ (fun c hc => upd_ne hc) ⟨nm, _, upd_same, Paired.mapP ep fun p q e => ⟨e.1, e.2.1.to tk, e.2.2⟩⟩ (by rw [upd_same]; exact fun z => nomatch z)
/-- len(d) -/
theorem call_lenN : CallR X (.builtin "len") (fun xs H Q => ∃ a kvs, xs = [.ref a] ∧ DN X.prog X.w H a kvs ∧ Q (.int (kvs.length : Int)) H) := by
  intro pins s σ H xs us Q I r h
  obtain ⟨a, kvs, rfl, ⟨nm, ys, d1, d2⟩, q⟩ := h
  obtain ⟨u, rfl, ru⟩ := vals1 r
  obtain rfl : u = Value.ref a := ru
  obtain ⟨dd, z⟩ := dn_of I.hok d1 d2
  have hl : kvs.length = ys.length := Paired.length d2
  have hn := line63
  refine call_len_dictH nm dd (by omega) ⟨.int (kvs.length : Int), H, I.tok _, ⟨s.toks + 1, ?_⟩, q⟩
  rw [hl]
end

/-! ### keys numbered as they come -/
section
variable {κ : Type} [DecidableEq κ]
def dictFrom : Nat → List κ → List (κ × V)
  | _, [] => []
  | n, k :: r => (k, .int (n : Int)) :: dictFrom (n + 1) r
theorem dictFrom_len : ∀ (l : List κ) (n : Nat), (dictFrom n l).length = l.length
  | [], _ => rfl
  | _ :: l, n => congrArg (· + 1) (dictFrom_len l (n + 1))
theorem dictFrom_snoc (k : κ) : ∀ (l : List κ) (n : Nat), dictFrom n (l ++ [k]) = dictFrom n l ++ [(k, .int ((n + l.length : Nat) : Int))]
  | [], n => rfl
  | x :: l, n => by
    show (x, V.int (n : Int)) :: dictFrom (n + 1) (l ++ [k]) = (x, V.int (n : Int)) :: (dictFrom (n + 1) l ++ [(k, .int ((n + (x :: l).length : Nat) : Int))])
    rw [dictFrom_snoc k l (n + 1), List.length_cons, Nat.add_right_comm n 1, Nat.add_assoc]
theorem valV_dictFrom (k : κ) : ∀ (l : List κ) (n : Nat), valV (dictFrom n l) k = if k ∈ l then some (.int ((n + l.idxOf k : Nat) : Int)) else none
  | [], _ => rfl
  | x :: l, n => by
    show valV ((x, V.int (n : Int)) :: dictFrom (n + 1) l) k = _
    by_cases e : x = k
    · subst e
      rw [valV_pos rfl, if_pos List.mem_cons_self]
      simp
    · rw [valV_neg e, valV_dictFrom k l (n + 1)]
      by_cases h : k ∈ l
      · rw [if_pos h, if_pos (List.mem_cons_of_mem _ h), List.idxOf_cons]
        simp only [beq_eq_false_iff_ne.mpr e, cond_false]
        congr 2
        omega
      · rw [if_neg h, if_neg (by simp [h, Ne.symm e])]
theorem putK_dictFrom {k : κ} {l : List κ} {n : Nat} (h : k ∉ l) : putK (dictFrom n l) k (.int ((n + l.length : Nat) : Int)) = dictFrom n (l ++ [k]) := by
  unfold putK
  rw [valV_any, valV_dictFrom, if_neg h, dictFrom_snoc]
  rfl
/-- the different ones, as they come -/
def addSeen (seen : List κ) (m : κ) : List κ := if m ∈ seen then seen else seen ++ [m]
def seenOf (ms : List κ) : List κ := ms.foldl addSeen []
theorem seenOf_snoc (ms : List κ) (m : κ) : seenOf (ms ++ [m]) = addSeen (seenOf ms) m := by
  unfold seenOf
  rw [List.foldl_append]
  rfl
theorem addSeen_mem (seen : List κ) (m : κ) : m ∈ addSeen seen m := by
  unfold addSeen
  split
  · assumption
  · simp
theorem addSeen_pre (seen : List κ) (m : κ) : ∃ t, addSeen seen m = seen ++ t := by
  unfold addSeen
  split
  · exact ⟨[], by simp⟩
  · exact ⟨[m], rfl⟩
theorem foldl_pre (ms : List κ) : ∀ seen : List κ, ∃ t, ms.foldl addSeen seen = seen ++ t := by
  induction ms with
  | nil => exact fun seen => ⟨[], by simp⟩
  | cons m ms ih =>
    intro seen
    obtain ⟨t1, e1⟩ := addSeen_pre seen m
    obtain ⟨t2, e2⟩ := ih (addSeen seen m)
    exact ⟨t1 ++ t2, by rw [List.foldl_cons, e2, e1, List.append_assoc]⟩
theorem mem_seenOf (ms : List κ) : ∀ m, m ∈ seenOf ms ↔ m ∈ ms := by
  have all : ∀ (ms seen : List κ) (m : κ), m ∈ ms.foldl addSeen seen ↔ m ∈ seen ∨ m ∈ ms := by
    intro ms
    induction ms with
    | nil => intro seen m; simp
    | cons x ms ih =>
      intro seen m
      rw [List.foldl_cons, ih]
      unfold addSeen
      by_cases h : x ∈ seen
      · rw [if_pos h, List.mem_cons]
        constructor
        · rintro (h1 | h1)
          · exact .inl h1
          · exact .inr (.inr h1)
        · rintro (h1 | rfl | h1)
          · exact .inl h1
          · exact .inl h
          · exact .inr h1
      · rw [if_neg h, List.mem_append, List.mem_singleton, List.mem_cons, or_assoc]
  intro m
  unfold seenOf
  rw [all]
  simp
theorem seenOf_nodup (ms : List κ) : (seenOf ms).Nodup := by
  have all : ∀ (ms seen : List κ), seen.Nodup → (ms.foldl addSeen seen).Nodup := by
    intro ms
    induction ms with
    | nil => exact fun _ h => h
    | cons x ms ih =>
      intro seen h
      refine ih _ ?_
      unfold addSeen
      split
      · exact h
      · rename_i hx
        rw [List.nodup_append]
        exact ⟨h, by simp, fun a ha b hb => by rw [List.mem_singleton.mp hb]; exact fun e => hx (e ▸ ha)⟩
  exact all ms [] List.nodup_nil
theorem idxOf_pre {seen t : List κ} {m : κ} (h : m ∈ seen) : (seen ++ t).idxOf m = seen.idxOf m := by
  rw [List.idxOf_append, if_pos h]
def numb (ms : List κ) : List Nat := ms.map fun m => (seenOf ms).idxOf m
theorem numb_len (ms : List κ) : (numb ms).length = ms.length := List.length_map _
/-- one more -/
theorem numb_snoc (ms : List κ) (m : κ) : numb (ms ++ [m]) = numb ms ++ [(addSeen (seenOf ms) m).idxOf m] := by
  unfold numb
  rw [List.map_append, seenOf_snoc]
  refine congrArg (· ++ _) (List.map_congr_left fun x hx => ?_)
  obtain ⟨t, e⟩ := addSeen_pre (seenOf ms) m
  rw [e, idxOf_pre ((mem_seenOf ms x).mpr hx)]
theorem seenOf_len (ms : List κ) : (seenOf ms).length ≤ ms.length := by
  have all : ∀ (ms seen : List κ), (ms.foldl addSeen seen).length ≤ seen.length + ms.length := by
    intro ms
    induction ms with
    | nil => intro _; exact Nat.le_refl _
    | cons x ms ih =>
      intro seen
      have h := ih (addSeen seen x)
      have h2 : (addSeen seen x).length ≤ seen.length + 1 := by
        unfold addSeen
        split
        · omega
        · simp
      rw [List.foldl_cons, List.length_cons]
      omega
  have := all ms []
  rw [List.length_nil, Nat.zero_add] at this
  exact this
theorem idxOf_map_inj {α : Type} [DecidableEq α] (f : α → κ) (hf : ∀ a b, f a = f b → a = b) (a : α) : ∀ l : List α, (l.map f).idxOf (f a) = l.idxOf a
  | [] => rfl
  | x :: l => by
    rw [List.map_cons, List.idxOf_cons, List.idxOf_cons, idxOf_map_inj f hf a l]
    by_cases e : x = a
    · rw [e, beq_self_eq_true, beq_self_eq_true]
    · rw [beq_eq_false_iff_ne.mpr e, beq_eq_false_iff_ne.mpr fun z => e (hf _ _ z)]
end
end QD
end

section
set_option Elab.async false
set_option linter.all false
set_option maxRecDepth 100000
set_option maxHeartbeats 2000000
/-! sorted(range(n), key=lambda number: -len(rows[number][0])) -/
namespace QL
open PySem PySem.Spec PyProof.Rows L2

abbrev lamArgs (x : Str) (p : Pos) : Arguments := { posonlyargs := [], args := [{ arg := x, annotation := none, pos := p }], vararg := none, kwonlyargs := [], kw_defaults := [], kwarg := none, defaults := [] }
abbrev lamBody (x rows : Str) (p1 p2 p3 p4 p5 p6 p7 p8 : Pos) : Expr :=
  .UnaryOp .USub (.Call (.Name "len" p1) [.Subscript (.Subscript (.Name rows p2) (.Name x p3) p4) (.Constant (.int 0) 0 p5) p6] [] p7) p8
abbrev lamScope (x rows : Str) : Scope := { kind := .function, names := [(x, .local), (rows, .free), ("len", .globalImplicit)], isGenerator := false, isCoroutine := false, more := [] }

theorem ls_x : (lamScope ("number" : Str) ("standings" : Str)).names.lookup ("number" : Str) = some .local := by decide +kernel
theorem ls_r : (lamScope ("number" : Str) ("standings" : Str)).names.lookup ("standings" : Str) = some .free := by decide +kernel
theorem ls_l : (lamScope ("number" : Str) ("standings" : Str)).names.lookup ("len" : Str) = some .globalImplicit := by decide +kernel
theorem ls_c : ∀ x ∈ (lamScope ("number" : Str) ("standings" : Str)).names, x.2 ≠ .cell := by decide +kernel
theorem isList_keeps {h h' : Heap} {a : Addr} {xs : Array Value} (x : h.IsList a xs) (k : ∀ b o, h.get? b = some o → h'.get? b = some o) : h'.IsList a xs := by
  obtain ⟨o, ho, r⟩ := x
  exact ⟨o, k _ _ ho, r⟩
section
variable {prog : Program} {w : World} {A : Around} {s : Shared} {mg mb : Str → Option Value} {f c c' a t wd : Addr} {q : Str} {cl : List (Str × Addr)} {pm ctv : Value} {p0 p1 p2 p3 p4 p5 p6 p7 p8 : Pos} {its tits wits : List Value} {n : Nat} {tk : Tok}
theorem body_runs {env : Env} {E : Value → Shared → Prop} {Q : Value → Shared → Prop}
    (hk : env.scope.kind = .function) (hgl : env.globals = mainGlobals) (hbl : env.builtins = builtinsNs) (k1 : env.kindOf "number" = some .local) (k2 : env.kindOf "standings" = some .free) (k3 : env.kindOf "len" = some .globalImplicit)
    (hn : s.heap.Ns env.locals fun y => if y = ("number" : Str) then some (.int n tk) else none) (hc : env.cells.lookup ("standings" : Str) = some c) (hcell : s.heap.IsCell c (some (.ref a)))
    (hg : s.heap.Ns mainGlobals mg) (hm : mg ("len" : Str) = none) (hb : s.heap.Ns builtinsNs mb) (hv : mb ("len" : Str) = some (.builtin "len"))
    (hl : s.heap.IsList a its.toArray) (hi : its[n]? = some (.ref t)) (ht : IsTup s.heap t tits.toArray) (hw : tits[0]? = some (.ref wd)) (hwl : s.heap.IsList wd wits.toArray)
    (hz : its.length ≤ sizeLine) (hzt : tits.length ≤ sizeLine) (hz2 : wits.length ≤ sizeLine)
    (hQ : ∀ tk t', Q (.int (-(wits.length : Int)) t') { s with toks := tk }) :
    wpAny (model prog w) A (eval (lamBody ("number" : Str) ("standings" : Str) p1 p2 p3 p4 p5 p6 p7 p8) env) Q E s := by
  have hn63 := line63
  refine UnaryOp_ ?_
  refine wpAny_Call_Name_kw (Calls.Name_function_global hk k3 (Calls.loadGlobal_builtin (by rw [hgl]; exact hg) hm (by rw [hbl]; exact hb) hv ?_))
  refine PyProof.Rows.callWith_builtin1 (args_cons ?_) (by rfl) (by rfl)
  refine Subscript_ (Subscript_ ?_)
  refine wpAny_Name (wpAny_loadName_free hk k2 hc hcell ?_)
  refine wpAny_Name (wpAny_loadName_local (v := .int n tk) hk k1 hn (by rw [if_pos rfl]) ?_)
  have hlt : n < its.length := (List.getElem?_eq_some_iff.mp hi).1
  refine item_listR hl (by omega) (by omega) (x := .ref t) (by simpa using hi) ?_
  refine wpAny_Constant_int ?_
  have h0 : 0 < tits.length := (List.getElem?_eq_some_iff.mp hw).1
  refine subscriptTail_builtinR (x := .ref wd) ht.typeIs slot_tuple_getitem.lookup
    (getItem_tuple (j := 0) (Q := fun r s' => r = .ref wd ∧ _) ht (by omega) (by omega) (by rw [List.size_toArray]; exact seqIndex_of (Int.le_refl 0) (by omega)) (by simpa using hw) ⟨rfl, ?_⟩)
  refine args_nil ?_
  refine Calls.call_len_list hwl (by rw [List.size_toArray]; omega) ?_
  refine neg_int ?_
  rw [List.size_toArray]
  exact hQ _ _

/-- the lambda called -/
theorem lam_call (hf : s.heap.get? f = some (PySem.W.kla_obj "<lambda>" q (lamArgs ("number" : Str) p0) (lamBody ("number" : Str) ("standings" : Str) p1 p2 p3 p4 p5 p6 p7 p8) (lamScope ("number" : Str) ("standings" : Str)) cl pm c' ctv))
    (hcd : s.heap.CodeRec (.ref c') q) (hroom : A.depth < recursionLimit) (hlim : s.heap.NoLimit)
    (hc : cl.lookup ("standings" : Str) = some c) (hcell : s.heap.IsCell c (some (.ref a)))
    (hg : s.heap.Ns mainGlobals mg) (hm : mg ("len" : Str) = none) (hb : s.heap.Ns builtinsNs mb) (hv : mb ("len" : Str) = some (.builtin "len"))
    (hl : s.heap.IsList a its.toArray) (hi : its[n]? = some (.ref t)) (ht : IsTup s.heap t tits.toArray) (hw : tits[0]? = some (.ref wd)) (hwl : s.heap.IsList wd wits.toArray)
    (hz : its.length ≤ sizeLine) (hzt : tits.length ≤ sizeLine) (hz2 : wits.length ≤ sizeLine) :
    wpAny (model prog w) A (call (.ref f) [.int n tk]) (PySem.W.KeyPure (.int (-(wits.length : Int))) s) (fun _ _ => False) s := by
  refine wpAny_call ?_
  refine PySem.W.kla_callFunE hroom hf rfl rfl rfl rfl hcd ?_
  have eb : bindArgs (PySem.W.kla_fn "<lambda>" q (lamArgs ("number" : Str) p0) (lamBody ("number" : Str) ("standings" : Str) p1 p2 p3 p4 p5 p6 p7 p8) (lamScope ("number" : Str) ("standings" : Str)) cl pm (.ref c') ctv) ⟨[.int n tk], []⟩ = pure [(("number" : Str), .int n tk)] := rfl
  rw [eb]
  refine wpAny_pure (wpAny_newFunctionEnv ls_c (fun y hy => by
    rw [List.mem_singleton.mp hy]
    exact ls_x) (fun h₁ hns hsb => ⟨hlim.fresh _ hsb, ?_⟩) rfl)
  have kp : ∀ b o, s.heap.get? b = some o → h₁.get? b = some o := fun b o e => hsb.extBut b o (Nat.ne_of_lt (Heap.lt_size e)) (Heap.get?_push_of_some _ e)
  refine PySem.W.kla_codeExpr ?_
  have hns' : h₁.Ns s.heap.objs.size fun y => if y = ("number" : Str) then some (.int n tk) else none := by
    have e : (fun y => ([(("number" : Str), Value.int n tk)] : List (Str × Value)).reverse.lookup y) = fun y => if y = ("number" : Str) then some (.int n tk) else none := by
      funext y
      show List.lookup y [(("number" : Str), Value.int n tk)] = _
      rw [List.lookup_cons]
      by_cases hy : y = ("number" : Str)
      · rw [if_pos hy, hy]; simp
      · rw [if_neg hy, beq_eq_false_iff_ne.mpr hy]; rfl
    rw [← e]
    exact hns
  refine body_runs (s := { s with heap := h₁, toks := s.toks + 1 }) rfl rfl rfl ls_x ls_r ls_l hns' hc ?_ (hg.keeps kp) hm (hb.keeps kp) hv (isList_keeps hl kp) hi (ht.keeps kp) hw (isList_keeps hwl kp) hz hzt hz2 fun tk2 t2 => ?_
  · obtain ⟨o, ho, hd⟩ := hcell
    exact ⟨o, kp _ _ ho, hd⟩
  · exact ⟨h₁, tk2, rfl, kp, .int _ _⟩
end

section
variable {prog : Program} {w : World} {A : Around} {E : Value → Shared → Prop} {s : Shared} {r f : Addr} {t u v : Tok} {n : Nat}
abbrev IsN (x : Value) (i : Nat) : Prop := ∃ t, x = .int (i : Int) t
theorem each_ints {R : Value → Nat → Prop} : ∀ (l : List Value) (k : Nat), (∀ j x, l[j]? = some x → R x (k + j)) → PySem.W.EachIs R l (List.range' k l.length)
  | [], k, _ => .nil
  | x :: l, k, h => by
    rw [List.length_cons, List.range'_succ]
    refine .cons (by simpa using h 0 x rfl) (each_ints l (k + 1) fun j y e => ?_)
    have := h (j + 1) y (by simpa using e)
    rwa [Nat.add_assoc, Nat.add_comm 1 j]
theorem sorted_range_key {Q : Value → Shared → Prop} (key : Nat → Int) (hh : A.handled = none) (hr : IsRange s.heap r 0 (n : Int) 1 t u v) (hn : n ≤ 100000) (hu : A.units + 10 < cLine)
    (turn : ∀ (i : Nat) (tk : Tok), i < n → ∀ (h : Heap) (tk0 : Nat), (∀ b o, s.heap.get? b = some o → h.get? b = some o) →
      wpAny (model prog w) A.in1.in1 (call (.ref f) [.int i tk]) (PySem.W.KeyPure (.int (key i)) { s with heap := h, toks := tk0 }) (fun _ _ => False) { s with heap := h, toks := tk0 })
    (h : ∀ (out : List Value) (c : Nat) (h1 h' : Heap) (tk : Nat), (∀ b o, s.heap.get? b = some o → h1.get? b = some o) → (∀ b o, h1.get? b = some o → h'.get? b = some o) → h'.get? h1.objs.size = some (seqObj "list" out.toArray c) →
      PySem.W.EachIs IsN out ((List.range n).mergeSort fun i j => decide (key i ≤ key j)) → Q (.ref h1.objs.size) { s with heap := h', toks := tk }) :
    wpAny (model prog w) A (call (.builtin "sorted") [.ref r] [(Str.ofString "key", .ref f)]) Q E s := by
  have hsz := sizeLine_eq
  refine call_function_entry_kw kind_sorted plain_sorted entry_sorted (ksk_s1 _ _) ?_
  unfold Builtin.«sorted»
  refine wpAny_bind (m := checkCount "sorted" 1 1 _) (wpAny_pure ?_)
  have hrs : Builtin.Range.rangeSize 0 (n : Int) 1 = n := by
    unfold Builtin.Range.rangeSize
    simp
    omega
  have hsm : Builtin.Range.small 0 (n : Int) 1 = true := by
    unfold Builtin.Range.small
    rw [hrs]
    simp [Builtin.Range.rangeFitsLong]
    omega
  refine wpAny_bind (collect_range (A := A.in1) hh hr hsm hrs (by omega) fun h1 tk1 acc k1 hi => ?_)
  have hal : acc.toList.length = n := by rw [Array.length_toList]; exact hi.1
  refine wpAny_bind (wpAny_newList ?_ (by rw [hal]; omega))
  have hL : (h1.push (seqObj "list" acc.toList.toArray 0)).get? h1.objs.size = some (seqObj "list" acc.toList.toArray 0) := Heap.get?_push_size _ rfl
  have k2 : ∀ b o, s.heap.get? b = some o → (h1.push (seqObj "list" acc.toList.toArray 0)).get? b = some o := fun b o e => Heap.get?_push_of_some _ (k1 b o e)
  have ebs : PySem.W.EachIs IsN acc.toList (List.range n) := by
    have e := each_ints (R := IsN) acc.toList 0 fun j x hx => ?_
    · rw [hal, ← List.range_eq_range'] at e
      exact e
    · obtain ⟨t, ht⟩ := hi.2 j x (by simpa using hx)
      exact ⟨t, by rw [ht, Int.mul_one, Int.zero_add, Nat.zero_add]⟩
  refine wpAny_bind (wpAny_holding (wpAny_call_entry_kw slot_list_sort ⟨_, hL, rfl⟩ entry_list_sort ?_ (ksk_l1 _ _)))
  rw [ksk_t1]
  have up : ∀ {g : Heap}, PySem.W.KeepsBut h1.objs.size (h1.push (seqObj "list" acc.toList.toArray 0)) g → ∀ b o, h1.get? b = some o → g.get? b = some o := fun {g} kp b o e =>
    kp b o (Nat.ne_of_lt (Heap.lt_size e)) (Heap.get?_push_of_some _ e)
  refine PySem.W.keyH_tree (kz := (List.range n).map fun i => PyData.int (key i)) hL (by rw [List.length_map, List.length_range, hal]) (by rw [hal]; omega) (PySem.W.AllAlike.of fun i j => rfl) (PySem.W.Sortable.others fun i => ⟨(fun z => nomatch z), fun xs z => nomatch z⟩) (fun d hd => ?_)
    (PySem.W.keyH_turns (s := { s with heap := h1.push (seqObj "list" acc.toList.toArray 0), toks := tk1 }) (k := fun i => PyData.int (key i)) ebs fun x i hR hx h2 tk2 kp => ?_) fun h2 tk2 out c kp hD ko => ⟨_, rfl, ?_⟩
  · obtain ⟨i, _, rfl⟩ := List.mem_map.mp hd
    show A.units + 1 + 1 + 0 < cLine
    omega
  · obtain ⟨t, rfl⟩ := hR
    exact turn i t (List.mem_range.mp hx) h2 tk2 fun b o e => up kp b o (k1 b o e)
  · refine wpAny_pure ⟨_, rfl, ?_⟩
    have e := PySem.W.keyedOut_each _ ko ebs
    rw [PySem.W.dataLe_int] at e
    exact h out c h1 h2 tk2 k1 (up kp) hD e
end

section
open LamX
variable {X : Cx}
theorem pe_range1 {p pos : Pos} {e : Expr} {te : TE} (hg : Gl X "range") (hm : X.mg "range" = none) (he : PE X e te) (hs : starEach [e] X.env = (false, eval e X.env) :: starEach [] X.env := by rfl) : PE X (.Call (.Name "range" p) [e] [] pos) (tCB (fun vs H Q => ∃ j : Int, vs = [V.int j] ∧ ∀ q, H q = none → Q (.ref q) (upd H q (.rng 0 j))) (tCons te tNil)) :=
  pe_callTy (T := "range") (fun pins s σ H vs us Q I r h => by
    obtain ⟨j, rfl, q⟩ := h
    obtain ⟨u1, rfl, rj⟩ := vals1 r
    obtain ⟨u, rfl⟩ := rj
    refine call_range_1 ⟨.ref s.heap.objs.size, upd H s.heap.objs.size (.rng 0 j), I.laid (t' := s.toks + 1 + 1) (fun b o e => Heap.get?_push_of_some _ e) (Nat.le_refl _) ?_, rfl, q _ (I.hok.fresh (Nat.le_refl _))⟩
    exact ⟨s.toks, u, s.toks + 1, Heap.get?_push_size _ rfl⟩) hg hm (by decide +kernel) (pa_cons he pa_nil (hs := hs)) (he := hs)

/-- sorted(range(..), key=lambda number: -len(rows[number][0])), the rows in slot i, a cell -/
def tSortLam (T : List (Addr × Str)) (K : PySem.W.Frag) (i : Nat) (ti : TE) : TE := fun σ H Q => ti σ H fun x H1 => ∃ (r : Addr) (n : Nat) (a : Addr) (ts : List Addr) (key : Nat → Int), x = .ref r ∧ H1 r = some (.rng 0 (n : Int)) ∧ n ≤ 100000 ∧ σ[i]? = some (some (.ref a)) ∧
  SqL K H1 a (ts.map V.ref) ∧ ts.length = n ∧ (∀ (j : Nat) (t : Addr), ts[j]? = some t → ∃ (wd : Addr) (more xs : List V), SqT K H1 t (.ref wd :: more) ∧ SqL K H1 wd xs ∧ key j = -(xs.length : Int)) ∧ Tabs T H1 ∧
  ∀ (p : Addr) (H2 : Hp), ExtN H1 H2 → Tabs T H2 → H2 p = none → Q (.ref p) (upd H2 p (.lst (((List.range n).mergeSort fun i j => decide (key i ≤ key j)).map fun (j : Nat) => V.int (j : Int))))
theorem sqL_ext {K : PySem.W.Frag} {H H' : Hp} {a : Addr} {xs : List V} (e : ExtN H H') (h : SqL K H a xs) : SqL K H' a xs := by
  rcases h with (h | ⟨o, h⟩) | h
  · exact .inl (.inl (e _ _ h fun ps z => nomatch z))
  · exact .inl (.inr ⟨o, e _ _ h fun ps z => nomatch z⟩)
  · exact .inr h
theorem sqT_ext {K : PySem.W.Frag} {H H' : Hp} {a : Addr} {xs : List V} (e : ExtN H H') (h : SqT K H a xs) : SqT K H' a xs := by
  rcases h with (h | ⟨o, h⟩) | h
  · exact .inl (.inl (e _ _ h fun ps z => nomatch z))
  · exact .inl (.inr ⟨o, e _ _ h fun ps z => nomatch z⟩)
  · exact .inr h
theorem vals_of_each : ∀ (l : List Value) (ns : List Nat), PySem.W.EachIs IsN l ns → Vals (ns.map fun (j : Nat) => V.int (j : Int)) l
  | _, _, .nil => .nil
  | _, _, .cons h t => .cons h (vals_of_each _ _ t)
theorem pe_sortLam {T : List (Addr × Str)} {i : Nat} {iter : Expr} {ti : TE} {c P : Addr} {k : Nat} {q1 kpos lpos pos p0 p1 p2 p3 p4 p5 p6 p7 p8 : Pos} (hg : Gl X "sorted") (hm : X.mg "sorted" = none) (hmL : X.mg "len" = none) (hi : PE X iter ti)
    (hN : X.N[i]? = some ("standings" : Str)) (hcl : X.env.scope.names.lookup ("standings" : Str) = some .cell) (TB : TabB X.base X.mg c P) (hcode : X.env.code = .ref c) (hmT : (P, X.env.qual ++ "<lambda>") ∈ T) (hu : ∀ p ∈ T, p.1 = P → p.2 = X.env.qual ++ "<lambda>") (hr : Room k X.A)
    (he : backTo pos (starEach [iter] X.env) = (false, eval iter X.env) :: backTo pos (starEach [] X.env) := by rfl) (hpl : (backTo pos (starEach [iter] X.env)).any (·.1) = false := by rfl) :
    PE X (.Call (.Name "sorted" q1) [iter] [⟨some "key", .Lambda (lamArgs ("number" : Str) p0) (lamBody ("number" : Str) ("standings" : Str) p1 p2 p3 p4 p5 p6 p7 p8) (lamScope ("number" : Str) ("standings" : Str)) lpos, kpos⟩] pos) (tSortLam T X.K i ti) := by
  refine ⟨fun pins s σ H Q I h => ?_⟩
  refine wpAny_Call_Name_kw (ld_blt I hg hm (u := .builtin "sorted") (by decide +kernel) ?_)
  refine PyProof.Rows.callWith_kw ?_ he hpl rfl rfl
  rw [he]
  refine Calls.spliced_cons (thn (hi.run pins s σ H _ I h) fun u s1 ⟨x, H1, I1, r1, q1⟩ => ?_)
  obtain ⟨r, n, a, ts, key, rfl, hrg, hn, hσ, hS, hlen, hrows, hT, q⟩ := q1
  obtain rfl : u = Value.ref r := r1
  refine Calls.spliced_nil ?_
  show wpAny _ _ (evalAll [do let v ← eval (.Lambda (lamArgs ("number" : Str) p0) (lamBody ("number" : Str) ("standings" : Str) p1 p2 p3 p4 p5 p6 p7 p8) (lamScope ("number" : Str) ("standings" : Str)) lpos) X.env; standAt pos; pure v]) _ _ s1
  have hfree : ∀ y ∈ (lamScope ("number" : Str) ("standings" : Str)).names, y.2 = NameKind.free → ∃ c, X.env.cells.lookup y.1 = some c := fun y hy e => by
    have hy1 : y = (("standings" : Str), NameKind.free) := by
      rcases List.mem_cons.mp hy with rfl | hy
      · cases e
      · rcases List.mem_cons.mp hy with rfl | hy
        · rfl
        · rw [List.mem_singleton.mp hy] at e
          cases e
    rw [hy1]
    exact I1.ok.has _ (.inl hcl)
  refine wpAny_evalAll_cons (wpAny_bind (lam_make2 I1 TB hcode hmT hu hT rfl hfree fun f c' pm ctv H2 s2 I2 e2 T2 hf hfn hfr hco => wpAny_bind (wpAny_standAt (wpAny_pure (wpAny_evalAll_nil ?_)))))
  -- the def's cell of rows
  have hcell : ∃ c2, X.env.cells.lookup ("standings" : Str) = some c2 ∧ s2.heap.IsCell c2 (some (.ref a)) := by
    obtain ⟨m, hn2, hl⟩ := I2.loc
    obtain ⟨w2, rv, l⟩ := hl i ("standings" : Str) _ hN hσ (.inr (.inl hcl))
    obtain rfl : w2 = Value.ref a := rv
    rcases l with ⟨hk, _⟩ | ⟨_, c2, h1, h2⟩
    · have hk : X.env.scope.names.lookup ("standings" : Str) = some .local := hk
      rw [hcl] at hk
      cases hk
    · exact ⟨c2, h1, h2⟩
  obtain ⟨c2, hc2, hcell⟩ := hcell
  have hcl2 : (cloFrom X.env.cells (lamScope ("number" : Str) ("standings" : Str)).names []).lookup ("standings" : Str) = some c2 := NdefX.clo_has hfree (by decide +kernel) hc2
  obtain ⟨mb, hb1, hb2⟩ := I2.mod.blt
  have rg2 : H2 r = some (.rng 0 (n : Int)) := e2 _ _ hrg fun ps z => nomatch z
  obtain ⟨t1, t2, t3, hrr⟩ := (show ObjOk X.prog X.w H2 s2.heap r (.rng 0 (n : Int)) from I2.hok r _ rg2)
  obtain ⟨its, rv, pl, hz⟩ := I2.list (sqL_ext e2 hS)
  have hun := hr.un
  have hdp := hr.dp
  refine sorted_range_key (f := f) key hr.hd hrr hn (by omega) (fun j tk hj h0 tk0 k0 => ?_) fun out cc h1 h' tk k1 k2 hD hE => ?_
  · have hjt : j < ts.length := by omega
    obtain ⟨wd, more, xs, ht, hw, hkey⟩ := hrows j ts[j] (by simp [hjt])
    obtain ⟨tits, rvt, plt, hzt⟩ := I2.tuple (sqT_ext e2 ht)
    obtain ⟨wits, rvw, plw, hzw⟩ := I2.list (sqL_ext e2 hw)
    have hlw := rvw.length
    have hlt := rvt.length
    have hli := rv.length
    obtain ⟨u1, hu1, ru1⟩ := rv.get (i := j) (x := .ref ts[j]) (by rw [List.getElem?_map]; simp [hjt])
    obtain rfl : u1 = Value.ref ts[j] := ru1
    obtain ⟨u2, hu2, ru2⟩ := rvt.get (i := 0) (x := .ref wd) rfl
    obtain rfl : u2 = Value.ref wd := ru2
    rw [hkey, hlw]
    refine lam_call (s := { s2 with heap := h0, toks := tk0 }) (k0 _ _ hf) ?_ (by show X.A.depth < recursionLimit; omega) (I2.nolimit.keeps k0) hcl2 ?_ ((I2.mod.glob.keeps I2.bk).keeps k0) hmL ((hb1.keeps I2.bk).keeps k0) ((hb2 _ (by decide)).trans (by decide +kernel))
      (isList_keeps pl.isList k0) hu1 (plt.keeps k0) hu2 (isList_keeps plw.isList k0) (by omega) (by omega) (by omega)
    · obtain ⟨c3, oc, vs, t, z1, z2, z3, z4⟩ := NdefX.codeO_at I2.hok hco
      exact ⟨c3, oc, vs, t, z1, k0 _ _ z2, z3, z4⟩
    · obtain ⟨o, ho, hd⟩ := hcell
      exact ⟨o, k0 _ _ ho, hd⟩
  · have I3 : Inv X pins σ H2 { s2 with heap := h1 } := I2.kept (t' := s2.toks) k1
    have hl2 : (((List.range n).mergeSort fun i j => decide (key i ≤ key j)).map fun (j : Nat) => V.int (j : Int)).length ≤ sizeLine := by
      rw [List.length_map, List.length_mergeSort, List.length_range, sizeLine_eq]
      omega
    have I4 := I3.laid (a := h1.objs.size) (t' := tk) (h' := h') (o := .lst (((List.range n).mergeSort fun i j => decide (key i ≤ key j)).map fun (j : Nat) => V.int (j : Int))) k2 (Nat.le_refl _) ⟨hl2, out, cc, vals_of_each _ _ hE, hD⟩
    exact ⟨.ref h1.objs.size, _, I4, rfl, q _ H2 e2 T2 (I3.hok.fresh (Nat.le_refl _))⟩
theorem pe_sortLamK (K : PySem.W.Frag) {T : List (Addr × Str)} {i : Nat} {iter : Expr} {ti : TE} {c P : Addr} {k : Nat} {q1 kpos lpos pos p0 p1 p2 p3 p4 p5 p6 p7 p8 : Pos} (hg : Gl X "sorted") (hm : X.mg "sorted" = none) (hmL : X.mg "len" = none) (hi : PE X iter ti)
    (hN : X.N[i]? = some ("standings" : Str)) (hcl : X.env.scope.names.lookup ("standings" : Str) = some .cell) (TB : TabB X.base X.mg c P) (hcode : X.env.code = .ref c) (hmT : (P, X.env.qual ++ "<lambda>") ∈ T) (hu : ∀ p ∈ T, p.1 = P → p.2 = X.env.qual ++ "<lambda>") (hr : Room k X.A) (hK : X.K = K := by rfl)
    (he : backTo pos (starEach [iter] X.env) = (false, eval iter X.env) :: backTo pos (starEach [] X.env) := by rfl) (hpl : (backTo pos (starEach [iter] X.env)).any (·.1) = false := by rfl) :
    PE X (.Call (.Name "sorted" q1) [iter] [⟨some "key", .Lambda (lamArgs ("number" : Str) p0) (lamBody ("number" : Str) ("standings" : Str) p1 p2 p3 p4 p5 p6 p7 p8) (lamScope ("number" : Str) ("standings" : Str)) lpos, kpos⟩] pos) (tSortLam T K i ti) :=
  hK ▸ pe_sortLam hg hm hmL hi hN hcl TB hcode hmT hu hr he hpl
end
end QL
end

section
set_option Elab.async false
set_option linter.all false
set_option maxRecDepth 100000
/-! words, ways, standings in the abstract heap; what is kept -/
namespace QB
open PySem PySem.Spec PyProof.Rows L2 LamX

/-! ### text facts as data -/
/-- a def of the text: where it stands, how it binds -/
structure DefAt (K : PySem.W.Frag) (x qual : Str) (st : Stmt) (ps : List Str) : Type where
  a : Addr
  fd : FuncData
  F : Fun K x qual st a fd
  b : Binds K fd ps []
/-- .. a def of the module, by its name -/
structure TopAt (K : PySem.W.Frag) (mg : Str → Option Value) (x : Str) (st : Stmt) (ps : List Str) : Type extends DefAt K x x st ps where
  mg : mg x = some (.ref a)

section
variable {X : Cx}
theorem pe_gc {x : Str} {v : V} {pos : Pos} (hg : Gl X x) (h : ∃ u, X.mg x = some u ∧ RelV v u) (hd : (x == ("__debug__" : Str)) = false := by decide) : PE X (.Name x pos) (tC v) := by
  obtain ⟨u, hm, r⟩ := h
  exact pe_glob hg hm r hd
end
theorem bo_isinstance : bootBuiltins "isinstance" = some (.builtin "isinstance") := by decide +kernel
theorem bo_abs : bootBuiltins "abs" = some (.builtin "abs") := by decide +kernel
theorem bo_max : bootBuiltins "max" = some (.builtin "max") := by decide +kernel
theorem bo_min : bootBuiltins "min" = some (.builtin "min") := by decide +kernel
theorem bo_sum : bootBuiltins "sum" = some (.builtin "sum") := by decide +kernel
theorem bo_all : bootBuiltins "all" = some (.builtin "all") := by decide +kernel
theorem bo_any : bootBuiltins "any" = some (.builtin "any") := by decide +kernel
theorem bo_len : bootBuiltins "len" = some (.builtin "len") := by decide +kernel
theorem bo_sorted : bootBuiltins "sorted" = some (.builtin "sorted") := by decide +kernel
theorem bo_list : bootBuiltins "list" = some (.type "list") := by decide +kernel
theorem bo_tuple : bootBuiltins "tuple" = some (.type "tuple") := by decide +kernel
theorem bo_int : bootBuiltins "int" = some (.type "int") := by decide +kernel
theorem bo_str : bootBuiltins "str" = some (.type "str") := by decide +kernel
theorem bo_bool : bootBuiltins "bool" = some (.type "bool") := by decide +kernel
theorem bo_range : bootBuiltins "range" = some (.type "range") := by decide +kernel
theorem bo_enumerate : bootBuiltins "enumerate" = some (.type "enumerate") := by decide +kernel
theorem bo_zip : bootBuiltins "zip" = some (.type "zip") := by decide +kernel
theorem bo_dict : bootBuiltins "dict" = some (.type "dict") := by decide +kernel
theorem bo_set : bootBuiltins "set" = some (.type "set") := by decide +kernel
theorem hu64 {A : Around} {k : Nat} (hr : Room k A) : A.units + 64 < cLine := hr.units

/-! ### rules with the written part named -/
section
variable {X : Cx} (K : PySem.W.Frag)
theorem ix_listK (h : X.K = K := by rfl) : IxR X (rIxL K) := h ▸ ix_list
theorem ix_tupK (h : X.K = K := by rfl) : IxR X (rIxT K) := h ▸ ix_tup
def rLen (K : PySem.W.Frag) : List V → Hp → VK → Prop := fun xs H Q => ∃ p ys, xs = [.ref p] ∧ (SqL K H p ys ∨ SqT K H p ys) ∧ Q (.int ys.length) H
theorem call_lenK (h : X.K = K := by rfl) : CallR X (.builtin "len") (rLen K) := h ▸ call_len_seq
def rListOf (K : PySem.W.Frag) : List V → Hp → VK → Prop := fun xs H Q => ∃ p ys, xs = [.ref p] ∧ (SqL K H p ys ∨ SqT K H p ys) ∧ ∀ l, H l = none → Q (.ref l) (upd H l (.lst ys))
theorem call_listK (h : X.K = K := by rfl) : CallR X (.type "list") (rListOf K) := h ▸ call_list_of
def rTupOf (K : PySem.W.Frag) : List V → Hp → VK → Prop := fun xs H Q => ∃ p ys, xs = [.ref p] ∧ ((SqL K H p ys ∧ ∀ l, H l = none → Q (.ref l) (upd H l (.tup ys))) ∨ (SqT K H p ys ∧ Q (.ref p) H))
theorem call_tupleK (h : X.K = K := by rfl) : CallR X (.type "tuple") (rTupOf K) := h ▸ call_tuple_of
theorem call_isiK (h : X.K = K := by rfl) : CallR X (.builtin "isinstance") (rIsi K) := h ▸ call_isi
theorem cr_allK (hc : X.calm = true) (h : X.K = K := by rfl) : CallR X (.builtin "all") (rAll K) := h ▸ cr_all hc
theorem cr_anyK (hc : X.calm = true) (h : X.K = K := by rfl) : CallR X (.builtin "any") (rAny K) := h ▸ cr_any hc
theorem cr_maxK (hc : X.calm = true) (h : X.K = K := by rfl) : CallR X (.builtin "max") (rMax K) := h ▸ cr_max hc
theorem mt_indexK (h : X.K = K := by rfl) : MtR X "list.index" (rIndex K) := h ▸ mt_index
theorem op_inK (h : X.K = K := by rfl) : OpR X (compareOp .In) (rIn K false) := h ▸ op_in_seq
theorem op_notInK (h : X.K = K := by rfl) : OpR X (compareOp .NotIn) (rIn K true) := h ▸ op_notIn_seq
theorem op_eqDK (hu : X.A.units + 64 < cLine) (h : X.K = K := by rfl) : OpR X (compareOp .Eq) (rEqD K) := h ▸ op_eqD hu
theorem op_neDK (hu : X.A.units + 64 < cLine) (h : X.K = K := by rfl) : OpR X (compareOp .NotEq) (rNeD K) := h ▸ op_neD hu
theorem sl_listK (h : X.K = K := by rfl) : SlR X (rSlL K) := h ▸ sl_list
theorem pi_listK {tg l : Expr} {tl : TE} (he : PE X l tl) (h : X.K = K := by rfl) : PI X tg l (iList K tl) := h ▸ pi_list he
theorem pe_fldK {e : Expr} {ta : TE} {f : Str} {pos : Pos} (he : PE X e ta) (hb : attributeBase e f X.env (eval e X.env) = eval e X.env) (h : X.K = K := by rfl) : PE X (.Attribute e f pos) (tFld K ta f) := h ▸ pe_fld he hb
theorem pe_bmK {o e : Expr} {es : List Expr} {to : TE} {t : TA} {name : Str} {apos cpos : Pos} {T id : String} {r : V → List V → Hp → VK → Prop} (pa : PlainAttrs T) (slot : Slot T name id)
    (hty : typeOf (.builtin id) = pure (.type "method_descriptor")) (hm : MtR X id r) (ho : PE X o to) (ha : PA X (e :: es) t) (h : X.K = K := by rfl) (hbase : attributeBase o name X.env (eval o X.env) = eval o X.env := by rfl)
    (hfew : ((backTo cpos (starEach (e :: es) X.env)).all (fun x => !x.1) && (backToKw cpos (keywordEach [] X.env)).all (fun x => x.1.isSome) && decide ((e :: es).length + ([] : List Keyword).length + (if ([] : List Keyword).isEmpty then 0 else 1) < 30)) = true := by rfl)
    (hline : (apos.endLine == cpos.line) = true := by rfl) (hs : starEach (e :: es) X.env = (false, eval e X.env) :: starEach es X.env := by rfl) (hp : (backTo cpos (starEach es X.env)).any (·.1) = false := by rfl) :
    PE X (.Call (.Attribute o name apos) (e :: es) [] cpos) (tBM K T r to t) := h ▸ pe_bm pa slot hty hm ho ha hbase hfew hline hs hp
theorem pe_bm0K {o : Expr} {to : TE} {name : Str} {apos cpos : Pos} {T id : String} {r : V → List V → Hp → VK → Prop} (pa : PlainAttrs T) (slot : Slot T name id)
    (hty : typeOf (.builtin id) = pure (.type "method_descriptor")) (hm : MtR X id r) (ho : PE X o to) (h : X.K = K := by rfl) (hbase : attributeBase o name X.env (eval o X.env) = eval o X.env := by rfl)
    (hline : (apos.endLine == cpos.line) = true := by rfl) : PE X (.Call (.Attribute o name apos) [] [] cpos) (tBM0 K T r to) := h ▸ pe_bm0 pa slot hty hm ho hbase hline
theorem pi_enumK {e : Expr} {ta : TA} {p pos tpos : Pos} {elts : List Expr} {kk : Nat} (hg : Gl X "enumerate") (hm : X.mg "enumerate" = none) (ha : PA X [e] ta) (h : X.K = K := by rfl) (hs : starEach [e] X.env = [(false, eval e X.env)] := by rfl) :
    PI X (.Tuple elts kk tpos) (.Call (.Name "enumerate" p) [e] [] pos) (iEnum K ta) := h ▸ pi_enum hg hm ha hs
theorem pi_zipK {e e2 : Expr} {ta : TA} {p pos tpos : Pos} {elts : List Expr} {kk : Nat} (hg : Gl X "zip") (hm : X.mg "zip" = none) (ha : PA X [e, e2] ta) (h : X.K = K := by rfl)
    (hs : starEach [e, e2] X.env = (false, eval e X.env) :: starEach [e2] X.env := by rfl) (hpl : (backTo pos (starEach [e2] X.env)).any (·.1) = false := by rfl) :
    PI X (.Tuple elts kk tpos) (.Call (.Name "zip" p) [e, e2] [] pos) (iZip K ta) := h ▸ pi_zip hg hm ha hs hpl
end

/-! ### what stays: all but the tables of code objects, which grow -/
def Ext (T : List (Addr × Str)) (H H' : Hp) : Prop := ExtN H H' ∧ (Tabs T H → Tabs T H')
section
variable {T : List (Addr × Str)} {H H' H'' : Hp} {p : Addr} {o : HO} {K : PySem.W.Frag}
theorem Ext.refl : Ext T H H := ⟨ExtN.refl H, fun t => t⟩
theorem Ext.trans (a : Ext T H H') (b : Ext T H' H'') : Ext T H H'' := ⟨a.1.trans b.1, fun t => b.2 (a.2 t)⟩
theorem Ext.of (a : Same H H') : Ext T H H' := ⟨ExtN.of a, fun t => t.ext a⟩
theorem same_new (h : H p = none) : Same H (upd H p o) := fun b u e => by
  rw [upd_ne (ne_of_none e h)]
  exact e
theorem Same.new (a : Same H H') (h : H' p = none) : Same H (upd H' p o) := fun b u e => by
  have e' := a b u e
  rw [upd_ne (ne_of_none e' h)]
  exact e'
/-- an object that was not there at H may change -/
theorem Same.mut (a : Same H H') (h : H p = none) : Same H (upd H' p o) := fun b u e => by
  rw [upd_ne (ne_of_none e h)]
  exact a b u e
theorem Ext.new (h : H p = none) : Ext T H (upd H p o) := .of (same_new h)
theorem Ext.get {u : HO} (a : Ext T H H') (h : H p = some u) (n : ∀ ps, u ≠ .tbl ps := by intro _ z; cases z) : H' p = some u := a.1 _ _ h n
theorem Ext.lst {xs : List V} (a : Ext T H H') (h : H p = some (.lst xs)) : H' p = some (.lst xs) := a.1 _ _ h fun _ z => nomatch z
theorem Ext.tup {xs : List V} (a : Ext T H H') (h : H p = some (.tup xs)) : H' p = some (.tup xs) := a.1 _ _ h fun _ z => nomatch z
/-- not there, but for a table -/
def Fresh (H : Hp) (p : Addr) : Prop := ∀ o, H p = some o → ∃ ps, o = .tbl ps
theorem Fresh.of (h : H p = none) : Fresh H p := fun o e => by
  rw [h] at e
  cases e
theorem Ext.fresh (a : Ext T H H') (h : Fresh H' p) : Fresh H p := fun o e => by
  by_cases hu : ∃ ps, o = .tbl ps
  · exact hu
  · exact h o (a.1 _ _ e fun ps z => hu ⟨ps, z⟩)
theorem Ext.free (a : Ext T H H') (h : H' p = none) : Fresh H p := a.fresh (.of h)
theorem Fresh.ne {q : Addr} {u : HO} (f : Fresh H p) (h : H q = some u) (n : ∀ ps, u ≠ .tbl ps := by intro _ z; cases z) : q ≠ p := fun e => by
  rw [e] at h
  obtain ⟨ps, z⟩ := f _ h
  exact n ps z
/-- what may be written without harm to the tables -/
def Plain : HO → Prop
  | .lst _ => True
  | .ins _ _ _ => True
  | .dK _ => True
  | _ => False
theorem Plain.tbl {o : HO} (h : Plain o) : ∀ ps, o ≠ .tbl ps := fun ps z => by
  rw [z] at h
  exact h
theorem Plain.code {o : HO} (h : Plain o) (c : Addr) (q : Str) : o ≠ CodeO c q := fun z => by
  rw [z] at h
  exact h
theorem tabs_mut {u : HO} (t : Tabs T H) (h : H p = some u) (hu : Plain u) : Tabs T (upd H p o) := fun q hq => by
  obtain ⟨ps, h1, h2, h3⟩ := t q hq
  refine ⟨ps, by rw [upd_ne (ne_of h1 h (hu.tbl ps).symm)]; exact h1, h2, fun pos cv hc => ?_⟩
  obtain ⟨c, e1, e2⟩ := h3 pos cv hc
  exact ⟨c, e1, by rw [upd_ne (ne_of e2 h (hu.code c _).symm)]; exact e2⟩
theorem Ext.mut {u : HO} (a : Ext T H H') (f : Fresh H p) (h : H' p = some u) (hu : Plain u := by trivial) : Ext T H (upd H' p o) :=
  ⟨fun b x e n => by
    rw [upd_ne (f.ne e n)]
    exact a.1 _ _ e n, fun t => tabs_mut (a.2 t) h hu⟩
theorem Ext.new' (a : Ext T H H') (h : H' p = none) : Ext T H (upd H' p o) := a.trans (.new h)
theorem Ext.sqL {a : Addr} {xs : List V} (e : Ext T H H') (h : SqL K H a xs) : SqL K H' a xs := QL.sqL_ext e.1 h
theorem Ext.sqT {a : Addr} {xs : List V} (e : Ext T H H') (h : SqT K H a xs) : SqT K H' a xs := QL.sqT_ext e.1 h
end

/-! ### words, ways, standings -/
abbrev Word := List Str
abbrev Ways := List (Option Nat)
abbrev Std := Word × Ways
abbrev Form := List Std
def vS (w : Word) : List V := w.map V.str
def vW : Option Nat → V
  | none => .non
  | some n => .int (n : Int)
def vWs (ws : Ways) : List V := ws.map vW
section
variable (H : Hp)
def WordAt (a : Addr) (w : Word) : Prop := H a = some (.lst (vS w))
def WaysAt (a : Addr) (w : Ways) : Prop := H a = some (.lst (vWs w))
def StdAt (t : Addr) (s : Std) : Prop := ∃ a b, H t = some (.tup [.ref a, .ref b]) ∧ WordAt H a s.1 ∧ WaysAt H b s.2
def FormAt (p : Addr) (F : Form) : Prop := ∃ ts : List Addr, H p = some (.lst (ts.map V.ref)) ∧ Paired (StdAt H) ts F
end
section
variable {T : List (Addr × Str)} {K : PySem.W.Frag} {H H' : Hp} {a p : Addr} {w : Word} {ws : Ways} {F : Form} {s : Std}
theorem Ext.word (e : Ext T H H') (h : WordAt H a w) : WordAt H' a w := e.lst h
theorem Ext.ways (e : Ext T H H') (h : WaysAt H a ws) : WaysAt H' a ws := e.lst h
theorem Ext.std (e : Ext T H H') (h : StdAt H a s) : StdAt H' a s := by
  obtain ⟨x, y, h1, h2, h3⟩ := h
  exact ⟨x, y, e.tup h1, e.word h2, e.ways h3⟩
theorem Ext.form (e : Ext T H H') (h : FormAt H p F) : FormAt H' p F := by
  obtain ⟨ts, h1, h2⟩ := h
  exact ⟨ts, e.lst h1, L2.Paired.mapP h2 fun t s h => e.std h⟩
theorem Same.word (e : Same H H') (h : WordAt H a w) : WordAt H' a w := e _ _ h
theorem Same.ways (e : Same H H') (h : WaysAt H a ws) : WaysAt H' a ws := e _ _ h
theorem Same.std (e : Same H H') (h : StdAt H a s) : StdAt H' a s := (Ext.of (T := []) e).std h
theorem Same.form (e : Same H H') (h : FormAt H p F) : FormAt H' p F := (Ext.of (T := []) e).form h
theorem paired_get {α β : Type} {R : α → β → Prop} : ∀ {l : List α} {m : List β} {i : Nat} {b : β}, Paired R l m → m[i]? = some b → ∃ a, l[i]? = some a ∧ R a b
  | _, _, _, _, .nil, e => by simp at e
  | _, _, 0, _, .cons h t, e => by
    simp at e
    subst e
    exact ⟨_, rfl, h⟩
  | _, _, i + 1, _, .cons h t, e => by
    obtain ⟨a, h1, h2⟩ := paired_get (i := i) t (by simpa using e)
    exact ⟨a, by simpa using h1, h2⟩
theorem paired_get' {α β : Type} {R : α → β → Prop} : ∀ {l : List α} {m : List β} {i : Nat} {a : α}, Paired R l m → l[i]? = some a → ∃ b, m[i]? = some b ∧ R a b
  | _, _, _, _, .nil, e => by simp at e
  | _, _, 0, _, .cons h t, e => by
    simp at e
    subst e
    exact ⟨_, rfl, h⟩
  | _, _, i + 1, _, .cons h t, e => by
    obtain ⟨a, h1, h2⟩ := paired_get' (i := i) t (by simpa using e)
    exact ⟨a, by simpa using h1, h2⟩
/-- the k-th standing: its tuple, its lists -/
theorem FormAt.at {k : Nat} (h : FormAt H p F) (e : F[k]? = some s) : ∃ (vs : List V) (t a b : Addr), H p = some (.lst vs) ∧ vs.length = F.length ∧ vs[k]? = some (.ref t) ∧ H t = some (.tup [.ref a, .ref b]) ∧ WordAt H a s.1 ∧ WaysAt H b s.2 := by
  obtain ⟨ts, h1, h2⟩ := h
  obtain ⟨t, ht, x, y, h3, h4, h5⟩ := paired_get h2 e
  exact ⟨_, t, x, y, h1, by rw [List.length_map, Paired.length h2], by rw [List.getElem?_map, ht]; rfl, h3, h4, h5⟩
theorem FormAt.lst (h : FormAt H p F) : ∃ vs : List V, H p = some (.lst vs) ∧ vs.length = F.length := by
  obtain ⟨ts, h1, h2⟩ := h
  exact ⟨_, h1, by rw [List.length_map, Paired.length h2]⟩
theorem vS_get {k : Nat} {x : Str} (h : w[k]? = some x) : (vS w)[k]? = some (.str x) := by
  unfold vS
  rw [List.getElem?_map, h]
  rfl
theorem vWs_get {k : Nat} {x : Option Nat} (h : ws[k]? = some x) : (vWs ws)[k]? = some (vW x) := by
  unfold vWs
  rw [List.getElem?_map, h]
  rfl
theorem vS_len : (vS w).length = w.length := List.length_map _
theorem vWs_len : (vWs ws).length = ws.length := List.length_map _
theorem vS_flat : (vS w).all flatV = true := by
  rw [List.all_eq_true]
  intro x hx
  obtain ⟨s, _, rfl⟩ := List.mem_map.mp hx
  rfl
theorem eqV_str (x y : Str) : eqV (.str x) (.str y) = decide (x = y) := by
  by_cases h : x = y
  · subst h
    simp [eqV]
  · simp [eqV, h]
theorem inV_word (x : Str) : inV (.str x) (vS w) = decide (x ∈ w) := by
  unfold inV vS
  induction w with
  | nil => rfl
  | cons y w ih =>
    rw [List.map_cons, List.any_cons, ih, eqV_str]
    by_cases h : y = x
    · subst h
      simp
    · simp [h, Ne.symm h]
theorem vW_is (x : Option Nat) : decide (vW x = .non) = x.isNone := by
  cases x <;> rfl
theorem vS_append (v w : Word) : vS v ++ vS w = vS (v ++ w) := (List.map_append ..).symm
theorem cut_drop (xs : List V) (k : Nat) : cutV xs (some (k : Int)) none = xs.drop k := by
  unfold cutV
  rw [HT.sIx_nat, HT.sIx_none]
  by_cases h : k ≤ xs.length
  · rw [Nat.min_eq_left h, List.take_of_length_le (by rw [List.length_drop]; exact Nat.le_refl _)]
  · rw [Nat.min_eq_right (by omega), List.drop_eq_nil_of_le (Nat.le_refl _), List.drop_eq_nil_of_le (by omega), List.take_nil]
theorem cut_take (xs : List V) (k : Nat) : cutV xs none (some (k : Int)) = xs.take k := by
  unfold cutV
  rw [HT.sIx_nat, HT.sIx_none, List.drop_zero, Nat.sub_zero]
  by_cases h : k ≤ xs.length
  · rw [Nat.min_eq_left h]
  · rw [Nat.min_eq_right (by omega), List.take_of_length_le (Nat.le_refl _), List.take_of_length_le (by omega)]
theorem vS_drop (w : Word) (k : Nat) : (vS w).drop k = vS (w.drop k) := List.map_drop.symm
theorem vS_take (w : Word) (k : Nat) : (vS w).take k = vS (w.take k) := List.map_take.symm
theorem idxOf_min {tags : Word} {t : Str} : ∀ {m : Nat}, m < tags.idxOf t → ∀ {x}, tags[m]? = some x → x ≠ t := by
  induction tags with
  | nil => intro m h x e; simp at e
  | cons y tags ih =>
    intro m h x e z
    subst z
    rw [List.idxOf_cons] at h
    by_cases hy : y == x
    · rw [hy] at h
      simp at h
    · rw [Bool.not_eq_true] at hy
      rw [hy] at h
      simp at h
      cases m with
      | zero =>
        simp at e
        subst e
        simp at hy
      | succ m => exact ih (m := m) (by omega) (by simpa using e) rfl
/-- tags.index(tag), there -/
theorem index_word {tags : Word} {t : Str} {Q : VK} (h : WordAt H a tags) (ht : t ∈ tags) (q : Q (.int (tags.idxOf t : Nat)) H) : rIndex K (.ref a) [.str t] H Q := by
  have hlt : tags.idxOf t < tags.length := List.idxOf_lt_length_of_mem ht
  refine ⟨a, vS tags, .str t, tags.idxOf t, .str t, rfl, rfl, SqL.of h, rfl, vS_flat, vS_get ?_, by rw [eqV_str]; simp, fun m z hm hz => ?_, q⟩
  · rw [List.getElem?_eq_getElem hlt, List.getElem_idxOf]
  · have hm' : m < tags.length := Nat.lt_trans hm hlt
    have e : tags[m]? = some tags[m] := by simp [hm']
    rw [vS_get e] at hz
    cases hz
    rw [eqV_str]
    exact decide_eq_false (idxOf_min hm e)

/-! ### comprehensions whose elements leave all as it was -/
theorem sz_le {n : Nat} (h : n ≤ 100000) : n ≤ sizeLine := Nat.le_trans h (by decide)
theorem sz_lt {n : Nat} (h : n < 100000) : n < sizeLine := Nat.lt_of_lt_of_le h (by decide)
theorem lc_filter {J : It} {n : Nat} {G : Hp → Prop} {Y : Nat → Hp → V → Hp → Prop} (w : Walk J n G Y) {g : TG} {tt : TT} {te : TE} {vs : List Nat} {σ : L2.St} {H1 : Hp} {D : Addr} {Qd : Hp → Prop} (hD : H1 D = none) (hn : n ≤ 100000)
    (hG : ∀ H, Same H1 H → G H) (f : Nat → V) (p : Nat → Bool)
    (hs : ∀ (i : Nat) (x : V) (H H' : Hp) (k : VK) (N : Hp → Prop), i < n → Same H1 H → Y i H x H' → (p i = true → ∀ H4, Same H H4 → k (f i) H4) → (p i = false → ∀ H4, Same H H4 → N H4) →
      g x (wipe σ vs) H' fun σ2 H2 => wipe σ2 vs = wipe σ vs ∧ tt σ2 H2 fun b H3 => if b = true then te σ2 H3 k else N H3)
    (hd : ∀ H, Same H1 H → H D = some (.lst (((List.range n).filter p).map f)) → Qd H) :
    ∃ W : Nat → Nat → Hp → Prop, (∃ m, W 0 m (upd H1 D (.lst []))) ∧ ∀ i m H, W i m H →
      (J.stop i H ∧ Qd H) ∨ (J.go i H ∧ ∃ Nx : Hp → Prop, (∀ H', Nx H' → ∃ m', m' < m ∧ W (i + 1) m' H') ∧ ∀ x H', J.yld i H x H' → g x (wipe σ vs) H' fun σ2 H2 => wipe σ2 vs = wipe σ vs ∧ tt σ2 H2 fun b H3 =>
        if b = true then te σ2 H3 fun y H4 => ∃ acc, H4 D = some (.lst acc) ∧ acc.length < sizeLine ∧ Nx (upd H4 D (.lst (acc ++ [y]))) else Nx H3) := by
  refine lc_it w (fun i H => Same H1 H ∧ H D = some (.lst (((List.range i).filter p).map f))) ⟨Same.mut (Same.refl H1) hD, upd_same⟩ (fun i H _ h => hG H h.1) (fun i x H H' hi h y => ?_) fun H h => hd H h.1 h.2
  obtain ⟨s1, e⟩ := h
  refine hs i x H H' _ _ hi s1 y (fun hp H4 s4 => ⟨_, s4 _ _ e, ?_, Same.mut (s1.trans s4) hD, ?_⟩) (fun hp H4 s4 => ⟨s1.trans s4, ?_⟩)
  · have h1 := List.length_filter_le p (List.range i)
    rw [List.length_range] at h1
    rw [List.length_map]
    exact sz_lt (by omega)
  · rw [upd_same, List.range_succ, List.filter_append, List.map_append, List.filter_cons, if_pos hp]
    rfl
  · rw [s4 _ _ e, List.range_succ, List.filter_append, List.map_append, List.filter_cons, if_neg (by rw [hp]; decide)]
    simp
theorem lc_map {J : It} {n : Nat} {G : Hp → Prop} {Y : Nat → Hp → V → Hp → Prop} (w : Walk J n G Y) {g : TG} {te : TE} {vs : List Nat} {σ : L2.St} {H1 : Hp} {D : Addr} {Qd : Hp → Prop} (hD : H1 D = none) (hn : n ≤ 100000)
    (hG : ∀ H, Same H1 H → G H) (f : Nat → V)
    (hs : ∀ (i : Nat) (x : V) (H H' : Hp) (k : VK), i < n → Same H1 H → Y i H x H' → (∀ H4, Same H H4 → k (f i) H4) →
      g x (wipe σ vs) H' fun σ2 H2 => wipe σ2 vs = wipe σ vs ∧ te σ2 H2 k)
    (hd : ∀ H, Same H1 H → H D = some (.lst ((List.range n).map f)) → Qd H) :
    ∃ W : Nat → Nat → Hp → Prop, (∃ m, W 0 m (upd H1 D (.lst []))) ∧ ∀ i m H, W i m H →
      (J.stop i H ∧ Qd H) ∨ (J.go i H ∧ ∃ Nx : Hp → Prop, (∀ H', Nx H' → ∃ m', m' < m ∧ W (i + 1) m' H') ∧ ∀ x H', J.yld i H x H' → g x (wipe σ vs) H' fun σ2 H2 => wipe σ2 vs = wipe σ vs ∧ tYes σ2 H2 fun b H3 =>
        if b = true then te σ2 H3 fun y H4 => ∃ acc, H4 D = some (.lst acc) ∧ acc.length < sizeLine ∧ Nx (upd H4 D (.lst (acc ++ [y]))) else Nx H3) := by
  refine lc_it w (fun i H => Same H1 H ∧ H D = some (.lst ((List.range i).map f))) ⟨Same.mut (Same.refl H1) hD, upd_same⟩ (fun i H _ h => hG H h.1) (fun i x H H' hi h y => ?_) fun H h => hd H h.1 h.2
  obtain ⟨s1, e⟩ := h
  have q := hs i x H H' (fun y H4 => ∃ acc, H4 D = some (.lst acc) ∧ acc.length < sizeLine ∧ (Same H1 (upd H4 D (.lst (acc ++ [y]))) ∧ (upd H4 D (.lst (acc ++ [y]))) D = some (.lst ((List.range (i + 1)).map f)))) hi s1 y
    fun H4 s4 => ⟨_, s4 _ _ e, by rw [List.length_map, List.length_range]; exact sz_lt (by omega), Same.mut (s1.trans s4) hD, by rw [upd_same, List.range_succ, List.map_append]; rfl⟩
  exact q
/-- a list by its places -/
theorem range_map_get {α : Type} (f : Nat → V) (l : List α) (h : α → V) (e : ∀ (i : Nat) (x : α), l[i]? = some x → f i = h x) : (List.range l.length).map f = l.map h := by
  refine List.ext_getElem? fun i => ?_
  rw [List.getElem?_map, List.getElem?_map]
  by_cases hi : i < l.length
  · rw [List.getElem?_range hi, List.getElem?_eq_getElem hi]
    exact congrArg some (e i _ (List.getElem?_eq_getElem hi))
  · rw [List.getElem?_eq_none (by rw [List.length_range]; omega), List.getElem?_eq_none (by omega)]
    rfl
theorem filter_range {α : Type} (q : α → Bool) (h : α → V) (p : Nat → Bool) (f : Nat → V) (l : List α) (e : ∀ (i : Nat) (x : α), l[i]? = some x → p i = q x ∧ f i = h x) : ((List.range l.length).filter p).map f = (l.filter q).map h := by
  have all : ∀ n, n ≤ l.length → ((List.range n).filter p).map f = ((l.take n).filter q).map h := by
    intro n
    induction n with
    | zero => intro _; rfl
    | succ n ih =>
      intro hn
      have ha : l[n]? = some (l[n]'(by omega)) := List.getElem?_eq_getElem (by omega)
      obtain ⟨e1, e2⟩ := e n _ ha
      rw [List.range_succ, List.filter_append, List.map_append, List.take_succ, ha, List.filter_append, List.map_append, ih (by omega), List.filter_cons, e1]
      by_cases hq : q (l[n]'(by omega)) = true
      · rw [if_pos hq]
        simp [hq, e2]
      · rw [if_neg hq]
        simp [hq]
  have := all l.length (Nat.le_refl _)
  rwa [List.take_length] at this

/-! ### what loops give -/
theorem walk_enumW : Walk (Ite K a) w.length (fun H => WordAt H a w) (fun i H v H' => ∃ (t : Addr) (x : Str), w[i]? = some x ∧ H t = none ∧ v = .ref t ∧ H' = upd H t (.tup [.int (i : Nat), .str x])) := by
  have e := walk_enum (K := K) (a := a) (xs := vS w)
  rw [vS_len] at e
  refine e.mono (fun H h => SqL.of h) fun i H v H' hi _ y => ?_
  obtain ⟨t, x, z, h1, h2, h3, h4, h5⟩ := y
  cases h4
  have h5 : (vS w)[i]? = some z := h5
  have hw : w[i]? = some w[i] := by simp [hi]
  rw [vS_get hw] at h5
  cases h5
  exact ⟨t, _, hw, h2, h1, h3⟩
theorem walk_listW : Walk (Itl K a) w.length (fun H => WordAt H a w) (fun i H v H' => ∃ x : Str, w[i]? = some x ∧ v = .str x ∧ H' = H) := by
  have e := walk_list (K := K) (a := a) (xs := vS w)
  rw [vS_len] at e
  refine e.mono (fun H h => SqL.of h) fun i H v H' hi _ y => ?_
  obtain ⟨h1, h2⟩ := y
  have hw : w[i]? = some w[i] := by simp [hi]
  rw [vS_get hw] at h2
  cases h2
  exact ⟨_, hw, rfl, h1⟩
theorem walk_listWs : Walk (Itl K a) ws.length (fun H => WaysAt H a ws) (fun i H v H' => ∃ x : Option Nat, ws[i]? = some x ∧ v = vW x ∧ H' = H) := by
  have e := walk_list (K := K) (a := a) (xs := vWs ws)
  rw [vWs_len] at e
  refine e.mono (fun H h => SqL.of h) fun i H v H' hi _ y => ?_
  obtain ⟨h1, h2⟩ := y
  have hw : ws[i]? = some ws[i] := by simp [hi]
  rw [vWs_get hw] at h2
  cases h2
  exact ⟨_, hw, rfl, h1⟩
/-- a form's standings, the heap as it was -/
theorem walk_listF : Walk (Itl K p) F.length (fun H => FormAt H p F) (fun i H v H' => ∃ (s : Std) (t a b : Addr), F[i]? = some s ∧ v = .ref t ∧ H' = H ∧ H t = some (.tup [.ref a, .ref b]) ∧ WordAt H a s.1 ∧ WaysAt H b s.2) := by
  refine ⟨fun i H hi h => ?_, fun H h => ?_, fun i H v H' hi h y => ?_⟩
  · obtain ⟨vs, t, a, b, h1, h2, h3, _⟩ := FormAt.at h (show F[i]? = some F[i] by simp [hi])
    exact ⟨vs, _, SqL.of h1, h3⟩
  · obtain ⟨vs, h1, h2⟩ := FormAt.lst h
    exact ⟨_, SqL.of h1, by rw [h2]; exact Nat.le_refl _⟩
  · have e : F[i]? = some F[i] := by simp [hi]
    obtain ⟨vs, t, a, b, h1, h2, h3, h4, h5, h6⟩ := FormAt.at h e
    obtain ⟨y1, y2⟩ := y
    have := y2 vs (SqL.of h1)
    rw [h3] at this
    cases this
    exact ⟨_, t, a, b, e, rfl, y1, h4, h5, h6⟩
end

/-! ### a form of one's own: new lists throughout, no list twice -/
abbrev Tri := Addr × Addr × Addr
def inner (L : List Tri) : List Addr := L.flatMap fun x => [x.2.1, x.2.2]
structure NewL (H0 H : Hp) (L : List Tri) (F : Form) : Prop where
  at_ : Paired (fun (x : Tri) (s : Std) => H x.1 = some (.tup [.ref x.2.1, .ref x.2.2]) ∧ WordAt H x.2.1 s.1 ∧ WaysAt H x.2.2 s.2) L F
  new : ∀ x ∈ L, Fresh H0 x.1 ∧ Fresh H0 x.2.1 ∧ Fresh H0 x.2.2
  nd : (inner L).Nodup
structure NewF (H0 H : Hp) (p : Addr) (L : List Tri) (F : Form) : Prop where
  lst : H p = some (.lst (L.map fun x => V.ref x.1))
  all : NewL H0 H L F
  new : Fresh H0 p
  out : p ∉ inner L
section
variable {T : List (Addr × Str)} {H0 H H' : Hp} {L : List Tri} {F : Form} {p t a b : Addr} {s : Std}
theorem NewL.nil : NewL H0 H [] [] := ⟨.nil, (fun _ h => nomatch h), List.nodup_nil⟩
theorem NewL.ext (n : NewL H0 H L F) (e : Ext T H H') : NewL H0 H' L F :=
  ⟨L2.Paired.mapP n.at_ fun _ _ h => ⟨e.tup h.1, e.word h.2.1, e.ways h.2.2⟩, n.new, n.nd⟩
theorem NewL.same (n : NewL H0 H L F) (e : Same H H') : NewL H0 H' L F := n.ext (Ext.of (T := []) e)
theorem NewF.ext (n : NewF H0 H p L F) (e : Ext T H H') : NewF H0 H' p L F := ⟨e.lst n.lst, n.all.ext e, n.new, n.out⟩
theorem NewF.same (n : NewF H0 H p L F) (e : Same H H') : NewF H0 H' p L F := n.ext (Ext.of (T := []) e)
theorem NewL.old {H1 : Hp} (n : NewL H H' L F) (e : Ext T H1 H) : NewL H1 H' L F := ⟨n.at_, fun x hx => ⟨e.fresh (n.new x hx).1, e.fresh (n.new x hx).2.1, e.fresh (n.new x hx).2.2⟩, n.nd⟩
theorem NewF.old {H1 : Hp} (n : NewF H H' p L F) (e : Ext T H1 H) : NewF H1 H' p L F := ⟨n.lst, n.all.old e, e.fresh n.new, n.out⟩
theorem mem_inner {q : Addr} (h : q ∈ inner L) : ∃ x ∈ L, q = x.2.1 ∨ q = x.2.2 := by
  obtain ⟨x, hx, hq⟩ := List.mem_flatMap.mp h
  refine ⟨x, hx, ?_⟩
  simpa using hq
theorem NewL.there (n : NewL H0 H L F) {q : Addr} (h : q ∈ inner L) : ∃ xs, H q = some (.lst xs) := by
  obtain ⟨x, hx, hq⟩ := mem_inner h
  obtain ⟨i, hi, e⟩ := List.mem_iff_getElem.mp hx
  obtain ⟨s, _, h1, h2, h3⟩ := paired_get' n.at_ (show L[i]? = some x by rw [List.getElem?_eq_getElem hi, e])
  rcases hq with rfl | rfl
  · exact ⟨_, h2⟩
  · exact ⟨_, h3⟩
theorem inner_append (L M : List Tri) : inner (L ++ M) = inner L ++ inner M := List.flatMap_append
theorem NewL.snoc (n : NewL H0 H L F) (e : Same H H') (ha : H a = none) (hb : H b = none) (hab : a ≠ b) (h1 : H' t = some (.tup [.ref a, .ref b])) (h2 : WordAt H' a s.1) (h3 : WaysAt H' b s.2) (f1 : Fresh H0 t) (f2 : Fresh H0 a) (f3 : Fresh H0 b) :
    NewL H0 H' (L ++ [(t, a, b)]) (F ++ [s]) := by
  refine ⟨Paired.snoc (n.same e).at_ ⟨h1, h2, h3⟩, fun x hx => ?_, ?_⟩
  · rcases List.mem_append.mp hx with hx | hx
    · exact n.new x hx
    · rw [List.mem_singleton.mp hx]
      exact ⟨f1, f2, f3⟩
  · rw [inner_append, List.nodup_append]
    refine ⟨n.nd, ?_, fun x hx y hy => ?_⟩
    · show [a, b].Nodup
      simp [hab]
    · obtain ⟨xs, hxs⟩ := n.there hx
      have hy : y = a ∨ y = b := by simpa [inner] using hy
      rcases hy with rfl | rfl
      · exact ne_of_none hxs ha
      · exact ne_of_none hxs hb
theorem NewL.form (n : NewL H0 H L F) (h : H p = some (.lst (L.map fun x => V.ref x.1))) : FormAt H p F := by
  refine ⟨L.map (·.1), by rw [List.map_map]; exact h, ?_⟩
  have e := n.at_
  clear h n
  induction e with
  | nil => exact .nil
  | cons h _ ih => exact .cons ⟨_, _, h.1, h.2.1, h.2.2⟩ ih
theorem NewF.form (n : NewF H0 H p L F) : FormAt H p F := n.all.form n.lst
theorem NewL.len (n : NewL H0 H L F) : L.length = F.length := Paired.length n.at_
theorem NewF.mk' (n : NewL H0 H L F) (h : H p = some (.lst (L.map fun x => V.ref x.1))) (f : Fresh H0 p) (o : p ∉ inner L) : NewF H0 H p L F := ⟨h, n, f, o⟩
/-- its k-th standing -/
theorem NewL.get (n : NewL H0 H L F) {k : Nat} (e : F[k]? = some s) : ∃ x : Tri, L[k]? = some x ∧ H x.1 = some (.tup [.ref x.2.1, .ref x.2.2]) ∧ WordAt H x.2.1 s.1 ∧ WaysAt H x.2.2 s.2 := paired_get n.at_ e
/-- another list is written -/
theorem paired_mem {α β : Type} {R S : α → β → Prop} : ∀ {l : List α} {m : List β}, Paired R l m → (∀ a b, a ∈ l → R a b → S a b) → Paired S l m
  | _, _, .nil, _ => .nil
  | _, _, .cons h t, f => .cons (f _ _ List.mem_cons_self h) (paired_mem t fun a b ha hr => f a b (List.mem_cons_of_mem _ ha) hr)
theorem NewL.upd {xs ys : List V} (n : NewL H0 H L F) (h : H p = some (.lst xs)) (o : p ∉ inner L) : NewL H0 (upd H p (.lst ys)) L F := by
  refine ⟨paired_mem n.at_ fun x s hx r => ?_, n.new, n.nd⟩
  have h1 : x.2.1 ≠ p := fun e => o (List.mem_flatMap.mpr ⟨x, hx, by simp [e]⟩)
  have h2 : x.2.2 ≠ p := fun e => o (List.mem_flatMap.mpr ⟨x, hx, by simp [e]⟩)
  exact ⟨(upd_ne (ne_of r.1 h (fun z => nomatch z))).trans r.1, Eq.trans (upd_ne h1) r.2.1, Eq.trans (upd_ne h2) r.2.2⟩
theorem NewL.updD {kvs : List (Key × V)} {u : HO} (n : NewL H0 H L F) (h : H p = some (.dK kvs)) : NewL H0 (L2.upd H p u) L F := by
  refine ⟨paired_mem n.at_ fun x s hx r => ?_, n.new, n.nd⟩
  exact ⟨(upd_ne (ne_of r.1 h (fun z => nomatch z))).trans r.1, Eq.trans (upd_ne (ne_of r.2.1 h (fun z => nomatch z))) r.2.1, Eq.trans (upd_ne (ne_of r.2.2 h (fun z => nomatch z))) r.2.2⟩
theorem not_inner_snoc (o : p ∉ inner L) (ha : p ≠ a) (hb : p ≠ b) : p ∉ inner (L ++ [(t, a, b)]) := by
  rw [inner_append]
  simp [inner] at o ⊢
  exact ⟨o, ha, hb⟩
/-- the ways of one standing are written anew -/
theorem NewL.setWays : ∀ {L : List Tri} {F : Form} {k : Nat} {x : Tri} {s : Std} {ws : Ways}, NewL H0 H L F → L[k]? = some x → F[k]? = some s → NewL H0 (L2.upd H x.2.2 (.lst (vWs ws))) L (F.set k (s.1, ws))
  | [], _, k, _, _, _, _, e, _ => by simp at e
  | y :: L, [], k, _, _, _, _, _, e => by simp at e
  | y :: L, f :: F, 0, x, s, ws, n, e1, e2 => by
    simp at e1 e2
    subst e1 e2
    obtain ⟨p, nw, nd⟩ := n
    cases p with
    | cons h t =>
      have nd' : (y.2.1 :: y.2.2 :: inner L).Nodup := nd
      rw [List.nodup_cons, List.nodup_cons] at nd'
      obtain ⟨d1, d2, d3⟩ := nd'
      have rest := NewL.upd (p := y.2.2) (ys := vWs ws) ⟨t, fun z hz => nw z (List.mem_cons_of_mem _ hz), d3⟩ h.2.2 d2
      refine ⟨?_, nw, nd⟩
      rw [List.set_cons_zero]
      exact .cons ⟨(upd_ne (ne_of h.1 h.2.2 (fun z => nomatch z))).trans h.1, Eq.trans (upd_ne fun z => d1 (by rw [z]; exact List.mem_cons_self)) h.2.1, upd_same⟩ rest.at_
  | y :: L, f :: F, k + 1, x, s, ws, n, e1, e2 => by
    rw [List.getElem?_cons_succ] at e1 e2
    obtain ⟨p, nw, nd⟩ := n
    cases p with
    | cons h t =>
      have nd' : (y.2.1 :: y.2.2 :: inner L).Nodup := nd
      rw [List.nodup_cons, List.nodup_cons] at nd'
      obtain ⟨d1, d2, d3⟩ := nd'
      have n' : NewL H0 H L F := ⟨t, fun z hz => nw z (List.mem_cons_of_mem _ hz), d3⟩
      have rest := NewL.setWays (ws := ws) n' e1 e2
      obtain ⟨z, hz, hz1, hz2, hz3⟩ := n'.get e2
      rw [e1] at hz
      cases hz
      have hx : x.2.2 ∈ inner L := List.mem_flatMap.mpr ⟨x, List.mem_of_getElem? e1, by simp⟩
      refine ⟨?_, nw, nd⟩
      rw [List.set_cons_succ]
      exact .cons ⟨(upd_ne (ne_of h.1 hz3 (fun z => nomatch z))).trans h.1, Eq.trans (upd_ne fun z => d1 (by rw [z]; exact List.mem_cons_of_mem _ hx)) h.2.1, Eq.trans (upd_ne fun z => d2 (by rw [z]; exact hx)) h.2.2⟩ rest.at_
end

/-! ### words compared -/
def txts (w : Word) : List PyData := w.map .str
theorem dpAll_word (K : PySem.W.Frag) (H : Hp) : ∀ w : Word, DpAll K H (vS w) (txts w)
  | [] => .nil
  | _ :: w => .cons (.str _) (dpAll_word K H w)
theorem dp_word {K : PySem.W.Frag} {H : Hp} {a : Addr} {w : Word} (h : WordAt H a w) : Dp K H (.ref a) (.list (txts w)) := .lst (SqL.of h) (dpAll_word K H w)
theorem eqvAll_txts : ∀ v w : Word, PyData.eqvAll (txts v) (txts w) = decide (v = w)
  | [], [] => rfl
  | [], _ :: _ => rfl
  | _ :: _, [] => rfl
  | x :: v, y :: w => by
    show (x == y && PyData.eqvAll (txts v) (txts w)) = _
    rw [eqvAll_txts v w]
    by_cases h : x = y
    · subst h
      by_cases h2 : v = w <;> simp [h2]
    · simp [h]
theorem layAll_txts : ∀ w : Word, (∀ t ∈ w, PyData.strOk t = true) → PyData.canLayAll0 (txts w) = true
  | [], _ => rfl
  | x :: w, h => by
    show (PyData.strOk x && PyData.canLayAll0 (txts w)) = true
    rw [h x List.mem_cons_self, layAll_txts w fun t ht => h t (List.mem_cons_of_mem _ ht)]
    rfl
theorem depthAll_txts : ∀ w : Word, PyData.depthAll (txts w) = 0
  | [] => rfl
  | x :: w => by
    show max 0 (PyData.depthAll (txts w)) = 0
    rw [depthAll_txts w]
    rfl
theorem shaped_word {w : Word} (h : ∀ t ∈ w, PyData.strOk t = true) : SeqAt.shaped (.list (txts w)) = true := by
  unfold SeqAt.shaped
  rw [Bool.and_eq_true]
  refine ⟨layAll_txts w h, decide_eq_true ?_⟩
  show PyData.depthAll (txts w) + 1 ≤ 64
  rw [depthAll_txts]
  decide
theorem eq_words {K : PySem.W.Frag} {H : Hp} {a b : Addr} {v w : Word} {Q : VK} (hv : WordAt H a v) (hw : WordAt H b w) (ov : ∀ t ∈ v, PyData.strOk t = true) (ow : ∀ t ∈ w, PyData.strOk t = true) (q : Q (.bl (decide (v = w))) H) : rEqD K (.ref a) (.ref b) H Q :=
  ⟨_, _, dp_word hv, dp_word hw, shaped_word ov, shaped_word ow, by
    show Q (.bl (PyData.eqvAll (txts v) (txts w))) H
    rw [eqvAll_txts]
    exact q⟩
theorem ne_words {K : PySem.W.Frag} {H : Hp} {a b : Addr} {v w : Word} {Q : VK} (hv : WordAt H a v) (hw : WordAt H b w) (ov : ∀ t ∈ v, PyData.strOk t = true) (ow : ∀ t ∈ w, PyData.strOk t = true) (q : Q (.bl (!decide (v = w))) H) : rNeD K (.ref a) (.ref b) H Q :=
  ⟨_, _, dp_word hv, dp_word hw, shaped_word ov, shaped_word ow, by
    show Q (.bl (!PyData.eqvAll (txts v) (txts w))) H
    rw [eqvAll_txts]
    exact q⟩

/-! ### a def whose code object is told -/
structure FunC (K : PySem.W.Frag) (x qual : Str) (st : Stmt) (f : Addr) (fd : FuncData) (c : Addr) : Prop where
  ex : ∃ (oc : Value) (od : Option Addr) (kV doc pm : Value) (an : Option Addr) (ct : Value) (osl : Array (Option Value)),
    fd = PySem.W.fnOf x qual (defArgs st) (defBody st) (defScope st) .none kV doc pm an (.ref c) ct ∧ K.lookup f = some ⟨oc, od, .func fd, osl⟩ ∧ PySem.W.codeIn K (.ref c) qual = true
theorem FunC.ok {P : Program} {w : World} {K : PySem.W.Frag} {mg : Str → Option Value} {base : Heap} {x qual : Str} {st : Stmt} {f c : Addr} {fd : FuncData} {N ps : List Str} {k : Nat} {sp : Sp} (F : FunC K x qual st f fd c) (S : FnScope N ps (defScope st)) (len : ∀ vs H Q E, sp vs H Q E → vs.length = ps.length)
    (hbody : ∀ (A : Around) (outer : List Env) (s : Shared) (H : Hp) (vs : List V) (Q : VK) (E : XK), Room k (A.deeper (envOfC qual (defScope st) s.heap.objs.size f (.ref c))) → sp vs H Q E →
      ∃ t, PSs (cxOf CX0 P w K mg base N qual (defScope st) f (.ref c) A outer s H E).nox (defBody st) t ∧ t { nx := fun _ H' => Q .non H', rt := Q } (L2.start N vs) H) : FnOk P w K mg base CX0 (k + 1) f fd ps sp := by
  obtain ⟨oc, od, kV, doc, pm, an, ct, osl, rfl, lk, hcd⟩ := F.ex
  exact fn_of lk hcd S len fun A outer s H vs Q E hr hsp => by
    obtain ⟨t, h, q⟩ := hbody A outer s H vs Q E hr hsp
    exact ⟨t, h.nox, q⟩
end QB
end

section
set_option linter.all false
set_option autoImplicit false
/-! mirrors: plain functions over words and standings -/
namespace QM
open PySem QB

def ixOf (tags : List Str) (t : Str) : Nat := tags.idxOf t
/-- the way of a standing for a tag -/
def way (tags : List Str) (s : Std) (t : Str) : Option Nat := (s.2[ixOf tags t]?).join
def wayAt (tags : List Str) (F : Form) (at_ : Nat) (t : Str) : Option Nat := (F[at_]?).bind fun s => way tags s t
def walkFrom (tags : List Str) (F : Form) : Nat → Nat → Word → Nat × Nat
  | at_, k, [] => (at_, k)
  | at_, k, t :: w => match wayAt tags F at_ t with
    | none => (at_, k)
    | some b => walkFrom tags F b (k + 1) w
def walk (tags : List Str) (F : Form) (w : Word) : Nat × Nat := walkFrom tags F 0 0 w
def wordOf (F : Form) (k : Nat) : Word := ((F[k]?).map (·.1)).getD []
def make (tags : List Str) (F : Form) (w : Word) : Word := wordOf F (walk tags F w).1 ++ w.drop (walk tags F w).2

structure Good (tags : List Str) (F : Form) : Prop where
  pos : 0 < F.length
  len : ∀ s ∈ F, s.2.length = tags.length
  to : ∀ s ∈ F, ∀ n, some n ∈ s.2 → n < F.length
  small : F.length ≤ 5000
theorem Good.way_lt {tags : List Str} {F : Form} (g : Good tags F) {s : Std} (hs : s ∈ F) {k n : Nat} (h : s.2[k]? = some (some n)) : n < F.length := g.to s hs n (List.mem_of_getElem? h)
theorem mem_of {F : Form} {k : Nat} {s : Std} (h : F[k]? = some s) : s ∈ F := List.mem_of_getElem? h
theorem Good.ways {tags : List Str} {F : Form} (g : Good tags F) {k : Nat} {s : Std} (h : F[k]? = some s) : s.2.length = tags.length := g.len s (mem_of h)
/-- the way of a standing for one of the tags -/
theorem Good.way {tags : List Str} {F : Form} (g : Good tags F) {k : Nat} {s : Std} {t : Str} (h : F[k]? = some s) (ht : t ∈ tags) : s.2[tags.idxOf t]? = some (way tags s t) := by
  have hlt : tags.idxOf t < s.2.length := by rw [g.ways h]; exact List.idxOf_lt_length_of_mem ht
  unfold QM.way ixOf
  rw [List.getElem?_eq_getElem hlt]
  rfl
theorem wayAt_of {tags : List Str} {F : Form} {k : Nat} {s : Std} {t : Str} (h : F[k]? = some s) : wayAt tags F k t = way tags s t := by
  unfold wayAt
  rw [h]
  rfl
theorem Good.wayLt {tags : List Str} {F : Form} (g : Good tags F) {k n : Nat} {s : Std} {t : Str} (h : F[k]? = some s) (ht : t ∈ tags) (e : QM.way tags s t = some n) : n < F.length := by
  have q := g.way h ht
  rw [e] at q
  exact g.way_lt (mem_of h) q
theorem wordOf_of {F : Form} {k : Nat} {s : Std} (h : F[k]? = some s) : wordOf F k = s.1 := by
  unfold wordOf
  rw [h]
  rfl
theorem walkFrom_lt {tags : List Str} {F : Form} (g : Good tags F) : ∀ (w : Word) (at_ k : Nat), at_ < F.length → (∀ t ∈ w, t ∈ tags) → (walkFrom tags F at_ k w).1 < F.length ∧ k ≤ (walkFrom tags F at_ k w).2 ∧ (walkFrom tags F at_ k w).2 ≤ k + w.length
  | [], at_, k, h, _ => ⟨h, Nat.le_refl _, Nat.le_refl _⟩
  | t :: w, at_, k, h, ht => by
    unfold walkFrom
    cases e : wayAt tags F at_ t with
    | none => exact ⟨h, Nat.le_refl _, Nat.le_add_right _ _⟩
    | some b =>
      have hF : F[at_]? = some F[at_] := by simp [h]
      have hb : b < F.length := g.wayLt hF (ht t List.mem_cons_self) (by rw [← wayAt_of hF]; exact e)
      obtain ⟨h1, h2, h3⟩ := walkFrom_lt g w b (k + 1) hb fun x hx => ht x (List.mem_cons_of_mem _ hx)
      show (walkFrom tags F b (k + 1) w).1 < F.length ∧ k ≤ (walkFrom tags F b (k + 1) w).2 ∧ (walkFrom tags F b (k + 1) w).2 ≤ k + (t :: w).length
      rw [List.length_cons]
      exact ⟨h1, by omega, by omega⟩
theorem walk_lt {tags : List Str} {F : Form} (g : Good tags F) {w : Word} (h : ∀ t ∈ w, t ∈ tags) : (walk tags F w).1 < F.length ∧ (walk tags F w).2 ≤ w.length := by
  obtain ⟨h1, _, h3⟩ := walkFrom_lt g w 0 0 g.pos h
  exact ⟨h1, by rw [Nat.zero_add] at h3; exact h3⟩

/-! ### classes of standings -/
open L2 in
def wayNum (cs : List Nat) : Option Nat → NestedKey
  | none => .num (-1)
  | some n => .num ((cs.getD n 0 : Nat) : Int)
def partKey (cs : List Nat) (p : Nat × Std) : NestedKey := .tup [.num (p.1 : Int), .tup (p.2.2.map (wayNum cs))]
def partKeys (cs : List Nat) (F : Form) : List NestedKey := (cs.zip F).map (partKey cs)
def part (cs : List Nat) (F : Form) : List Nat := QD.numb (partKeys cs F)
def wordKey (s : Std) : NestedKey := .tup (s.1.map .text)
def wordKeys (F : Form) : List NestedKey := F.map wordKey
def maxOf (cs : List Nat) : Nat := cs.foldl max 0
def alikeLoop (F : Form) : Nat → Nat → List Nat → List Nat
  | 0, _, cs => cs
  | f + 1, many, cs => if many ≤ maxOf cs then alikeLoop F f (maxOf cs + 1) (part cs F) else cs
def alike (F : Form) : List Nat := alikeLoop F (F.length + 1) 0 (QD.numb (wordKeys F))

theorem partKeys_len {cs : List Nat} {F : Form} (h : cs.length = F.length) : (partKeys cs F).length = F.length := by
  unfold partKeys
  rw [List.length_map, List.length_zip, h, Nat.min_self]
theorem part_len {cs : List Nat} {F : Form} (h : cs.length = F.length) : (part cs F).length = F.length := by
  unfold part
  rw [QD.numb_len, partKeys_len h]
theorem maxOf_le : ∀ (cs : List Nat) (a b : Nat), cs.foldl max a ≤ b ↔ a ≤ b ∧ ∀ x ∈ cs, x ≤ b
  | [], a, b => by simp
  | c :: cs, a, b => by
    rw [List.foldl_cons, maxOf_le cs (max a c) b]
    constructor
    · rintro ⟨h1, h2⟩
      refine ⟨by omega, fun x hx => ?_⟩
      rcases List.mem_cons.mp hx with rfl | hx
      · omega
      · exact h2 x hx
    · rintro ⟨h1, h2⟩
      have := h2 c List.mem_cons_self
      exact ⟨by omega, fun x hx => h2 x (List.mem_cons_of_mem _ hx)⟩
theorem le_maxOf {cs : List Nat} {x : Nat} (h : x ∈ cs) : x ≤ maxOf cs := ((maxOf_le cs 0 _).mp (Nat.le_refl _)).2 x h
theorem maxOf_eq {cs : List Nat} {m : Nat} (h : m ∈ cs) (hm : ∀ x ∈ cs, x ≤ m) : maxOf cs = m :=
  Nat.le_antisymm ((maxOf_le cs 0 m).mpr ⟨Nat.zero_le _, hm⟩) (le_maxOf h)
theorem numb_lt {α : Type} [DecidableEq α] {ms : List α} {x : Nat} (h : x ∈ QD.numb ms) : x < (QD.seenOf ms).length := by
  obtain ⟨m, hm, rfl⟩ := List.mem_map.mp h
  exact List.idxOf_lt_length_of_mem ((QD.mem_seenOf ms m).mpr hm)
theorem numb_lt' {α : Type} [DecidableEq α] {ms : List α} {x : Nat} (h : x ∈ QD.numb ms) : x < ms.length := Nat.lt_of_lt_of_le (numb_lt h) (QD.seenOf_len ms)

/-! ### the order in which standings are met -/
def clsOf (cs : List Nat) (n : Nat) : Nat := cs.getD n 0
def visit (cs : List Nat) (met : List Nat) : Option Nat → List Nat
  | none => met
  | some n => if clsOf cs n ∈ met.map (clsOf cs) then met else met ++ [n]
def visitAll (cs : List Nat) (met : List Nat) (ws : Ways) : List Nat := ws.foldl (visit cs) met
def newWay (cs met : List Nat) (w : Option Nat) : Option Nat := w.map fun n => (met.map (clsOf cs)).idxOf (clsOf cs n)
def newStd (cs met : List Nat) (s : Std) : Std := (s.1, s.2.map (newWay cs met))
def stdOf (F : Form) (k : Nat) : Std := F.getD k ([], [])
def orderLoop (F : Form) (cs : List Nat) : Nat → List Nat → Form → Form
  | 0, _, told => told
  | f + 1, met, told => if told.length < met.length then
      orderLoop F cs f (visitAll cs met (stdOf F (met.getD told.length 0)).2) (told ++ [newStd cs (visitAll cs met (stdOf F (met.getD told.length 0)).2) (stdOf F (met.getD told.length 0))])
    else told
def inOrder (F : Form) (cs : List Nat) : Form := orderLoop F cs (F.length + 1) [0] []
theorem stdOf_get {F : Form} {k : Nat} (h : k < F.length) : F[k]? = some (stdOf F k) := by
  unfold stdOf
  rw [List.getD_eq_getElem?_getD, List.getElem?_eq_getElem h]
  rfl
theorem nodup_le : ∀ (n : Nat) (l : List Nat), l.Nodup → (∀ x ∈ l, x < n) → l.length ≤ n
  | 0, l, _, h => by
    cases l with
    | nil => exact Nat.le_refl _
    | cons x l => exact absurd (h x List.mem_cons_self) (Nat.not_lt_zero _)
  | n + 1, l, nd, h => by
    have h1 := nodup_le n (l.erase n) (nd.erase n) fun x hx => by
      have hx' := List.mem_of_mem_erase hx
      have h2 := h x hx'
      have h3 : x ≠ n := fun e => by
        rw [e] at hx
        exact nd.not_mem_erase hx
      omega
    have h4 : l.length ≤ (l.erase n).length + 1 := by
      rw [List.length_erase]
      split <;> omega
    omega
/-- what holds of the met ones -/
structure Met (F : Form) (cs met : List Nat) : Prop where
  nd : (met.map (clsOf cs)).Nodup
  lt : ∀ m ∈ met, m < F.length
theorem Met.len {F : Form} {cs met : List Nat} (h : Met F cs met) : met.length ≤ F.length :=
  nodup_le _ _ ((List.pairwise_map.mp h.nd).imp fun h e => h (congrArg _ e)) h.lt
theorem Met.visit {F : Form} {cs met : List Nat} (h : Met F cs met) {w : Option Nat} (hw : ∀ n, w = some n → n < F.length) : Met F cs (visit cs met w) := by
  cases w with
  | none => exact h
  | some n =>
    unfold QM.visit
    show Met F cs (if clsOf cs n ∈ met.map (clsOf cs) then met else met ++ [n])
    by_cases hm : clsOf cs n ∈ met.map (clsOf cs)
    · rw [if_pos hm]
      exact h
    · rw [if_neg hm]
      refine ⟨?_, fun m hm' => ?_⟩
      · rw [List.map_append, List.nodup_append]
        exact ⟨h.nd, by simp, fun a ha b hb => by rw [List.mem_singleton.mp hb]; exact fun e => hm (e ▸ ha)⟩
      · rcases List.mem_append.mp hm' with q | q
        · exact h.lt m q
        · rw [List.mem_singleton.mp q]
          exact hw n rfl
theorem visit_pre (cs met : List Nat) (w : Option Nat) : ∃ t, visit cs met w = met ++ t := by
  cases w with
  | none => exact ⟨[], by simp [visit]⟩
  | some n =>
    by_cases h : clsOf cs n ∈ met.map (clsOf cs)
    · exact ⟨[], by simp [visit, h]⟩
    · exact ⟨[n], by simp [visit, h]⟩
theorem visitAll_pre (cs : List Nat) : ∀ (ws : Ways) (met : List Nat), ∃ t, visitAll cs met ws = met ++ t
  | [], met => ⟨[], by simp [visitAll]⟩
  | w :: ws, met => by
    obtain ⟨t, e⟩ := visit_pre cs met w
    obtain ⟨t2, e2⟩ := visitAll_pre cs ws (visit cs met w)
    refine ⟨t ++ t2, ?_⟩
    show visitAll cs (visit cs met w) ws = _
    rw [e2, e, List.append_assoc]
theorem visit_has (cs met : List Nat) (n : Nat) : clsOf cs n ∈ (visit cs met (some n)).map (clsOf cs) := by
  by_cases h : clsOf cs n ∈ met.map (clsOf cs)
  · simpa [visit, h] using h
  · simp [visit, h]
theorem visitAll_has (cs : List Nat) : ∀ (ws : Ways) (met : List Nat) (n : Nat), some n ∈ ws → clsOf cs n ∈ (visitAll cs met ws).map (clsOf cs)
  | w :: ws, met, n, h => by
    rcases List.mem_cons.mp h with e | h
    · obtain ⟨t, e2⟩ := visitAll_pre cs ws (visit cs met w)
      show _ ∈ (visitAll cs (visit cs met w) ws).map _
      rw [e2, List.map_append]
      exact List.mem_append_left _ (by rw [← e]; exact visit_has cs met n)
    · exact visitAll_has cs ws (visit cs met w) n h
theorem Met.visitAll {F : Form} {cs : List Nat} : ∀ {ws : Ways} {met : List Nat}, Met F cs met → (∀ n, some n ∈ ws → n < F.length) → Met F cs (visitAll cs met ws)
  | [], _, h, _ => h
  | w :: ws, met, h, hw => Met.visitAll (ws := ws) (met := QM.visit cs met w) (h.visit fun n e => hw n (by rw [e]; exact List.mem_cons_self)) fun n hn => hw n (List.mem_cons_of_mem _ hn)

/-! ### needless ways -/
def isNeedless (F : Form) (S : List Bool) (word : Word) (t : Str) (n : Nat) : Bool := S.getD n false && decide ((stdOf F n).1 = word ++ [t])
def pruneWay (F : Form) (S : List Bool) (word : Word) (t : Str) : Option Nat → Option Nat
  | none => none
  | some n => if isNeedless F S word t n = true then none else some n
def pruneWays (tags : List Str) (F : Form) (S : List Bool) (s : Std) : Ways := (tags.zip s.2).map fun p => pruneWay F S s.1 p.1 p.2
def pruneStd (tags : List Str) (F : Form) (S : List Bool) (s : Std) : Std := (s.1, pruneWays tags F S s)
def needStep (tags : List Str) (F : Form) (st : Form × List Bool) (k : Nat) : Form × List Bool :=
  (st.1.set k (pruneStd tags F st.2 (stdOf st.1 k)), st.2.set k ((pruneWays tags F st.2 (stdOf st.1 k)).all Option.isNone))
def keyOf (F : Form) (k : Nat) : Int := -((stdOf F k).1.length : Int)
def byLen (F : Form) : List Nat := (List.range F.length).mergeSort fun i j => decide (keyOf F i ≤ keyOf F j)
def needFold (tags : List Str) (F : Form) (ks : List Nat) : Form × List Bool := ks.foldl (needStep tags F) (F, List.replicate F.length false)
def needless (tags : List Str) (F : Form) : Form := (needFold tags F (byLen F)).1
def least (tags : List Str) (F : Form) : Form := inOrder (needless tags F) (alike (needless tags F))

theorem pruneWays_len {tags : List Str} {F : Form} {S : List Bool} {s : Std} (h : s.2.length = tags.length) : (pruneWays tags F S s).length = tags.length := by
  unfold pruneWays
  rw [List.length_map, List.length_zip, h, Nat.min_self]
theorem pruneWays_get {tags : List Str} {F : Form} {S : List Bool} {s : Std} {k : Nat} {t : Str} {w : Option Nat} (ht : tags[k]? = some t) (hw : s.2[k]? = some w) : (pruneWays tags F S s)[k]? = some (pruneWay F S s.1 t w) := by
  have ez : (tags.zip s.2)[k]? = some (t, w) := by
    rw [List.getElem?_zip_eq_some]
    exact ⟨ht, hw⟩
  unfold pruneWays
  rw [List.getElem?_map, ez]
  rfl
theorem pruneWay_some {F : Form} {S : List Bool} {word : Word} {t : Str} {w : Option Nat} {n : Nat} (h : pruneWay F S word t w = some n) : w = some n := by
  cases w with
  | none => cases h
  | some m =>
    have h : (if isNeedless F S word t m = true then none else some m) = some n := h
    by_cases e : isNeedless F S word t m = true
    · rw [if_pos e] at h
      cases h
    · rw [if_neg e] at h
      exact h
theorem pruneWays_some {tags : List Str} {F : Form} {S : List Bool} {s : Std} {n : Nat} (h : some n ∈ pruneWays tags F S s) : some n ∈ s.2 := by
  obtain ⟨p, hp, e⟩ := List.mem_map.mp h
  rw [← pruneWay_some e]
  exact (List.of_mem_zip hp).2
/-- what stays through the steps -/
structure Pruned (tags : List Str) (F : Form) (st : Form × List Bool) : Prop where
  len : st.1.length = F.length
  lenS : st.2.length = F.length
  word : ∀ k s, st.1[k]? = some s → s.1 = (stdOf F k).1 ∧ s.2.length = (stdOf F k).2.length ∧ ∀ n, some n ∈ s.2 → some n ∈ (stdOf F k).2
theorem Pruned.start (tags : List Str) (F : Form) : Pruned tags F (F, List.replicate F.length false) := by
  refine ⟨rfl, List.length_replicate, fun k s h => ?_⟩
  have hk : k < F.length := (List.getElem?_eq_some_iff.mp h).1
  have h : F[k]? = some s := h
  rw [stdOf_get hk] at h
  cases h
  exact ⟨rfl, rfl, fun n h => h⟩
theorem Pruned.step {tags : List Str} {F : Form} {st : Form × List Bool} (p : Pruned tags F st) (g : Good tags F) {k : Nat} (hk : k < F.length) : Pruned tags F (needStep tags F st k) := by
  have h1 : st.1[k]? = some (stdOf st.1 k) := stdOf_get (by rw [p.len]; exact hk)
  obtain ⟨w1, w2, w3⟩ := p.word k _ h1
  have gl : (stdOf F k).2.length = tags.length := g.ways (stdOf_get hk)
  refine ⟨by show (st.1.set k _).length = _; rw [List.length_set, p.len], by show (st.2.set k _).length = _; rw [List.length_set, p.lenS], fun j s hj => ?_⟩
  have hj : (st.1.set k (pruneStd tags F st.2 (stdOf st.1 k)))[j]? = some s := hj
  by_cases e : k = j
  · subst e
    rw [List.getElem?_set_self (by rw [p.len]; exact hk)] at hj
    cases hj
    refine ⟨w1, ?_, fun n hn => w3 n (pruneWays_some hn)⟩
    show (pruneWays tags F st.2 (stdOf st.1 k)).length = _
    rw [pruneWays_len (by rw [w2, gl]), gl]
  · rw [List.getElem?_set_ne e] at hj
    exact p.word j s hj
theorem Pruned.fold {tags : List Str} {F : Form} (g : Good tags F) : ∀ (ks : List Nat) (st : Form × List Bool), Pruned tags F st → (∀ k ∈ ks, k < F.length) → Pruned tags F (ks.foldl (needStep tags F) st)
  | [], _, p, _ => p
  | k :: ks, st, p, h => Pruned.fold g ks (needStep tags F st k) (p.step g (h k List.mem_cons_self)) fun j hj => h j (List.mem_cons_of_mem _ hj)
theorem byLen_lt {F : Form} {k : Nat} (h : k ∈ byLen F) : k < F.length := by
  unfold byLen at h
  rw [List.mem_mergeSort] at h
  exact List.mem_range.mp h
theorem byLen_len (F : Form) : (byLen F).length = F.length := by
  unfold byLen
  rw [List.length_mergeSort, List.length_range]
theorem mix_get {α : Type} {P Q : List α} {j : Nat} (h : P.length = Q.length) (hj : j < Q.length) : (P.take j ++ Q.drop j)[j]? = Q[j]? := by
  rw [List.getElem?_append_right (by rw [List.length_take]; omega), List.length_take, Nat.min_eq_left (by omega), Nat.sub_self, List.getElem?_drop, Nat.add_zero]
theorem mix_set {α : Type} {P Q : List α} {j : Nat} {x : α} (h : P.length = Q.length) (hj : P[j]? = some x) : (P.take j ++ Q.drop j).set j x = P.take (j + 1) ++ Q.drop (j + 1) := by
  have hj' : j < P.length := (List.getElem?_eq_some_iff.mp hj).1
  rw [List.set_append_right _ _ (by rw [List.length_take]; omega), List.length_take, Nat.min_eq_left (by omega), Nat.sub_self, List.take_succ, hj, List.drop_eq_getElem_cons (by omega : j < Q.length), List.set_cons_zero]
  simp
theorem mix_same {α : Type} {P Q : List α} {j : Nat} {x : α} (h : P.length = Q.length) (hj : P[j]? = some x) (hq : Q[j]? = some x) : P.take j ++ Q.drop j = P.take (j + 1) ++ Q.drop (j + 1) := by
  rw [← mix_set h hj]
  have hl : (P.take j ++ Q.drop j)[j]? = some x := by
    rw [mix_get h (List.getElem?_eq_some_iff.mp hq).1]
    exact hq
  refine List.ext_getElem? fun i => ?_
  by_cases e : j = i
  · subst e
    rw [List.getElem?_set_self (List.getElem?_eq_some_iff.mp hl).1, hl]
  · rw [List.getElem?_set_ne e]
end QM
end

section
set_option Elab.async false
set_option linter.all false
set_option maxRecDepth 100000
/-! Qown: len and == by the class's own methods, with any answer. -/
namespace QO
open PySem PySem.Spec PyProof.Rows L2
section
variable {X : Cx} {CX : CXT} {k : Nat} {f C : Addr} {fd : FuncData} {ps : List Str} {sp : Sp} {E : XK}
theorem run_in {A : Around} {pins : List (Addr × Obj)} {σ : L2.St} {H : Hp} {s : Shared} {Q : VK} {us : List Value} {vs : List V} (sb : Sub X k A) (F : FnOk X.prog X.w X.K X.mg X.base CX k f fd ps sp) (hb : Binds X.K fd ps []) (hx : Passes CX X E)
    (I : Inv X pins σ H s) (r : Vals vs us) (h : sp vs H Q E) : wpAny (model X.prog X.w) A (call (.ref f) us) (EP X pins σ Q) X.xe s := by
  have hl : us.length = ps.length := by rw [← r.length]; exact F.len _ _ _ _ h
  have e0 : Env0 X.prog X.w X.K X.mg X.base A X.stack s H := by
    have e := I.env0
    exact ⟨by rw [sb.fr]; exact e.frames, e.mod, e.bs, e.bsz, e.funs, e.frf, e.hok, e.bare⟩
  refine wpAny_call (codeAny_mono (F.run A X.stack s H ⟨us, []⟩ us vs Q E sb.room e0 (by
    have := hb s us I.kIn (by simpa using hl)
    simpa using this) r h) fun r s' hq => ?_)
  cases r with
  | error e => exact hx pins σ H s e s' I hq
  | ok fl =>
    cases fl with
    | ret u => exact I.after hq
    | next => exact False.elim hq
    | brk => exact False.elim hq
    | cont => exact False.elim hq
/-- len(x) by an own __len__ -/
def rLenO (C : Addr) (sp : Sp) (E : XK) : List V → Hp → VK → Prop := fun xs H Q => ∃ a dx fs, xs = [.ref a] ∧ H a = some (.ins C dx fs) ∧ sp [.ref a] H (fun v H' => ∃ n : Nat, v = .int (n : Int) ∧ n < sizeLine ∧ Q v H') E
theorem call_lenO (F : FnOk X.prog X.w X.K X.mg X.base CX k f fd ps sp) (hm : Meth X.K C "__len__" f) (hr : Room (k + 1) X.A) (hb : Binds X.K fd ps []) (hx : Passes CX X E) : CallR X (.builtin "len") (rLenO C sp E) := by
  intro pins s σ H xs us Q I r h
  obtain ⟨a, dx, fs, rfl, ha, h⟩ := h
  obtain ⟨u, rfl, ru⟩ := vals1 r
  cases ru
  obtain ⟨mA, J, _⟩ := ins_get I.hok ha
  obtain ⟨od, J, _⟩ := J.look
  obtain ⟨m, hF⟩ := I.fr
  refine PySem.W.len_K hF I.ok.mod.kin J hm.at_ hm.fn ?_
  refine wpAny_mono (run_in (A := X.A.in1) (vs := [.ref a]) ⟨hr.in1, rfl⟩ F hb hx I (.cons rfl .nil) h) (fun v s' q => ?_) fun _ _ x => x
  obtain ⟨v', H', I', rv, n, rfl, hn, q⟩ := q
  obtain ⟨t, rfl⟩ := (show ∃ t, v = Value.int (n : Int) t from rv)
  have hs : sizeLine = 16777216 := sizeLine_eq
  exact ⟨⟨by omega, by omega⟩, .int (n : Int), H', I'.tok _, ⟨_, rfl⟩, q⟩
/-- x == y by an own __eq__ -/
def rEqO (K : PySem.W.Frag) (C : Addr) (sp : Sp) (E : XK) : R2 := fun x y H Q => ∃ a dx fs t, x = .ref a ∧ H a = some (.ins C dx fs) ∧ TyOf K H y t ∧ PySem.W.notFirst K C t = true ∧ sp [.ref a, y] H (fun v H' => ∃ b : Bool, v = .bl b ∧ Q v H') E
theorem looks_ty {pins : List (Addr × Obj)} {σ : L2.St} {H : Hp} {s : Shared} {x : V} {u t : Value} (I : Inv X pins σ H s) (rx : RelV x u) (ty : TyOf X.K H x t) : PySem.W.Looks (model X.prog X.w) s.heap (typeOf u) t := by
  have ob : ∀ {a : Addr} {o : Obj}, s.heap.get? a = some o → PySem.W.Looks (model X.prog X.w) s.heap (typeOf (.ref a)) o.cls := fun e => PySem.W.Looks.ld e |>.andThen (PySem.W.Looks.now)
  cases ty with
  | non => cases (show u = Value.none from rx); exact PySem.W.Looks.of_pure rfl
  | bl y => cases (show u = Value.bool y from rx); exact PySem.W.Looks.of_pure rfl
  | int i => obtain ⟨t, q⟩ := (show ∃ t, u = Value.int i t from rx); cases q; exact PySem.W.Looks.of_pure rfl
  | str y => obtain ⟨t, q⟩ := (show ∃ t, u = Value.str y t from rx); cases q; exact PySem.W.Looks.of_pure rfl
  | flt y => obtain ⟨t, q⟩ := (show ∃ t, u = Value.float y t from rx); cases q; exact PySem.W.Looks.of_pure rfl
  | @lst a xs ea =>
    cases (show u = Value.ref a from rx)
    obtain ⟨_, _, n, _, h1⟩ := (show ObjOk X.prog X.w H s.heap a (.lst xs) from I.hok a _ ea)
    exact ob h1
  | @frz a ob' xs ea =>
    cases (show u = Value.ref a from rx)
    obtain ⟨_, _, _, n, _, h1⟩ := (show ObjOk X.prog X.w H s.heap a (.frz ob' (.lst xs)) from I.hok a _ ea)
    exact ob h1
  | @tup a xs ea =>
    cases (show u = Value.ref a from rx)
    obtain ⟨_, _, _, o, h1, h2, _⟩ := (show ObjOk X.prog X.w H s.heap a (.tup xs) from I.hok a _ ea)
    rw [← h2]
    exact ob h1
  | @dK a kvs ea =>
    cases (show u = Value.ref a from rx)
    obtain ⟨_, _, vs, _, o, es, ep, h1, h2, _⟩ := (show ObjOk X.prog X.w H s.heap a (.dK kvs) from I.hok a _ ea)
    rw [← h2.1]
    exact ob h1
  | @dT a kvs ea =>
    cases (show u = Value.ref a from rx)
    obtain ⟨_, _, xs, _, o, es, ep, h1, h2, _⟩ := (show ObjOk X.prog X.w H s.heap a (.dT kvs) from I.hok a _ ea)
    rw [← h2.1]
    exact ob h1
  | @ins a C dx fs ea cl ha hn htk hm =>
    cases (show u = Value.ref a from rx)
    obtain ⟨mA, O, _⟩ := ins_get I.hok ea
    obtain ⟨od, J, _⟩ := O.look
    exact J.type
theorem op_eqO (F : FnOk X.prog X.w X.K X.mg X.base CX k f fd ps sp) (hm : Meth X.K C "__eq__" f) (hr : Room k X.A) (hb : Binds X.K fd ps []) (hx : Passes CX X E) : OpR X (compareOp .Eq) (rEqO X.K C sp E) := by
  intro pins s σ H x y v u Q I rx ry h
  obtain ⟨a, dx, fs, t, rfl, ha, ht, hn, h⟩ := h
  cases rx
  obtain ⟨mA, J, _⟩ := ins_get I.hok ha
  obtain ⟨od, J, _⟩ := J.look
  obtain ⟨m, hF⟩ := I.fr
  show wpAny (model X.prog X.w) X.A (richCompare .Eq _ u) (EP X pins σ Q) X.xe s
  refine PySem.W.cmp_K (op := .Eq) hr.units0 hF I.ok.mod.kin J (looks_ty I ry ht) hn hm.at_ hm.fn ?_
  refine wpAny_mono (run_in (A := X.A) (vs := [.ref a, y]) ⟨hr, rfl⟩ F hb hx I (.cons rfl (.cons ry .nil)) h) (fun v s' q => ?_) fun _ _ x => x
  obtain ⟨v', H', I', rv, b, rfl, q⟩ := q
  cases rv
  exact ⟨.bl b, H', I', rfl, q⟩
/-- x in y by an own __contains__ -/
def rInO (C : Addr) (sp : Sp) (E : XK) (neg : Bool) : R2 := fun x y H Q => ∃ a dx fs, y = .ref a ∧ H a = some (.ins C dx fs) ∧ sp [.ref a, x] H (fun v H' => ∃ b : Bool, v = .bl b ∧ Q (.bl (if neg then !b else b)) H') E
theorem op_inO (F : FnOk X.prog X.w X.K X.mg X.base CX k f fd ps sp) (hm : Meth X.K C "__contains__" f) (hr : Room k X.A) (hb : Binds X.K fd ps []) (hx : Passes CX X E) : OpR X (compareOp .In) (rInO C sp E false) := by
  intro pins s σ H x y v u Q I rx ry h
  obtain ⟨a, dx, fs, rfl, ha, h⟩ := h
  cases ry
  obtain ⟨mA, J, _⟩ := ins_get I.hok ha
  obtain ⟨od, J, _⟩ := J.look
  obtain ⟨m, hF⟩ := I.fr
  refine PySem.W.in_K hF I.ok.mod.kin J hm.at_ hm.fn ?_
  refine wpAny_mono (run_in (A := X.A) (vs := [.ref a, x]) ⟨hr, rfl⟩ F hb hx I (.cons rfl (.cons rx .nil)) h) (fun v' s' q => ?_) fun _ _ x => x
  obtain ⟨z, H', I', rv, b, rfl, q⟩ := q
  cases rv
  exact wpAny_truthy_bool ⟨.bl b, H', I', rfl, q⟩
theorem op_notInO (F : FnOk X.prog X.w X.K X.mg X.base CX k f fd ps sp) (hm : Meth X.K C "__contains__" f) (hr : Room k X.A) (hb : Binds X.K fd ps []) (hx : Passes CX X E) : OpR X (compareOp .NotIn) (rInO C sp E true) := by
  intro pins s σ H x y v u Q I rx ry h
  obtain ⟨a, dx, fs, rfl, ha, h⟩ := h
  cases ry
  obtain ⟨mA, J, _⟩ := ins_get I.hok ha
  obtain ⟨od, J, _⟩ := J.look
  obtain ⟨m, hF⟩ := I.fr
  refine PySem.W.notIn_K hF I.ok.mod.kin J hm.at_ hm.fn ?_
  refine wpAny_mono (run_in (A := X.A) (vs := [.ref a, x]) ⟨hr, rfl⟩ F hb hx I (.cons rfl (.cons rx .nil)) h) (fun v' s' q => ?_) fun _ _ x => x
  obtain ⟨z, H', I', rv, b, rfl, q⟩ := q
  cases rv
  exact wpAny_truthy_bool ⟨.bl (!b), H', I', rfl, q⟩
end
/-- text * 0, text * 1 -/
theorem op_mul_str {X : Cx} : OpR X (binaryOp .Mult) (fun x y H Q => ∃ z, x = .str z ∧ ((y = .int 0 ∧ Q (.str Str.empty) H) ∨ (y = .int 1 ∧ Q (.str z) H))) := by
  intro pins s σ H x y v u Q I rx ry h
  obtain ⟨z, rfl, h⟩ := h
  obtain ⟨t, rfl⟩ := (show ∃ t, v = Value.str z t from rx)
  rcases h with ⟨rfl, q⟩ | ⟨rfl, q⟩
  · obtain ⟨t', rfl⟩ := (show ∃ t, u = Value.int 0 t from ry)
    exact PySem.P.mul_str_none (by decide) (by decide) ⟨.str Str.empty, H, I.tok _, ⟨_, rfl⟩, q⟩
  · obtain ⟨t', rfl⟩ := (show ∃ t, u = Value.int 1 t from ry)
    refine PySem.P.mul_str (by decide) (fun _ e => by simp at e) (fun _ e => by simp at e) ?_
    rw [if_neg (by decide), if_pos (by simp)]
    exact ⟨.str z, H, I, ⟨_, rfl⟩, q⟩
/-- xs.count(y), flat things -/
def rCount (K : PySem.W.Frag) : V → List V → Hp → VK → Prop := fun x xs H Q => ∃ (a : Addr) (ys : List V) (y : V), x = .ref a ∧ xs = [y] ∧ SqL K H a ys ∧ flatV y = true ∧ ys.all flatV = true ∧ Q (.int ((ys.countP fun z => eqV z y : Nat) : Int)) H
theorem count_eqU {y : V} : ∀ {ys : List V} {us : List Value}, Vals ys us → ys.all flatV = true → us.countP (eqU y) = ys.countP fun z => eqV z y
  | _, _, .nil, _ => rfl
  | z :: ys, u :: us, .cons r t, h => by
    rw [List.all_cons, Bool.and_eq_true] at h
    rw [List.countP_cons, List.countP_cons, count_eqU t h.2, eqU_of r h.1]
theorem mt_countL {X : Cx} : MtR X "list.count" (rCount X.K) := by
  intro pins s σ H x xs v us Q I rx rxs h
  obtain ⟨a, ys, y, rfl, rfl, hs, fy, fys, q⟩ := h
  cases rx
  cases rxs with
  | cons ry rt =>
    rename_i uy ut
    cases rt
    obtain ⟨its, rv, ⟨⟨cls, dd, data, sl⟩, n, ho, hc, hdn, hd⟩, hlen⟩ := I.list hs
    simp only at hc hd
    subst hc hd
    refine call_meets PySem.F.slot_list_count ⟨_, ho, rfl⟩ PySem.F.entry_list_count (PySem.F.args_list_count_2 _ _)
      (SeqAt.list_countAt a its.toArray n dd sl uy (eqU y)) ⟨ho, fun u' hu' => mem_eqAt ry fy rv fys u' (by simpa using hu'), ?_⟩
    refine ⟨.int ((ys.countP fun z => eqV z y : Nat) : Int), H, I.tok _, ⟨s.toks, ?_⟩, q⟩
    show Value.int ((its.toArray.toList.countP (eqU y) : Nat) : Int) s.toks = _
    rw [show its.toArray.toList.countP (eqU y) = ys.countP fun z => eqV z y from count_eqU rv fys]
theorem mt_countK {X : Cx} (K : PySem.W.Frag) (h : X.K = K := by rfl) : MtR X "list.count" (rCount K) := h ▸ mt_countL
/-- what isinstance and == ask of an own class -/
structure OwnC (K : PySem.W.Frag) (C : Addr) : Prop where
  ha : PySem.W.findIn K (.ref C) "__class__" = some (some (.builtin "object.__class__"))
  hn : PySem.W.specialIn K (.builtin "object.__class__") "__get__" = some (some (.builtin "getset_descriptor.__get__"))
  htk : PySem.W.takesIn K (.builtin "object.__class__") = some true
  hm : PySem.W.mroIn K C (.type "object") = some true
  kL : PySem.W.kitOne K (.type "list") (.ref C) = some false
  kT : PySem.W.kitOne K (.type "tuple") (.ref C) = some false
  kS : PySem.W.kitOne K (.type "str") (.ref C) = some false
  kI : PySem.W.kitOne K (.type "int") (.ref C) = some false
  kB : PySem.W.kitOne K (.type "bool") (.ref C) = some false
  kN : PySem.W.kitOne K (.type "NoneType") (.ref C) = some false
  kD : PySem.W.kitOne K (.type "dict") (.ref C) = some false
  cL : PySem.W.kitOne K (.ref C) (.type "list") = some false
  cT : PySem.W.kitOne K (.ref C) (.type "tuple") = some false
  cS : PySem.W.kitOne K (.ref C) (.type "str") = some false
  cI : PySem.W.kitOne K (.ref C) (.type "int") = some false
  cB : PySem.W.kitOne K (.ref C) (.type "bool") = some false
  nL : PySem.W.notFirst K C (.type "list") = true
  nT : PySem.W.notFirst K C (.type "tuple") = true
  nS : PySem.W.notFirst K C (.type "str") = true
  nI : PySem.W.notFirst K C (.type "int") = true
  nB : PySem.W.notFirst K C (.type "bool") = true
  nN : PySem.W.notFirst K C (.type "NoneType") = true
  nD : PySem.W.notFirst K C (.type "dict") = true
theorem OwnC.self {K : PySem.W.Frag} {C : Addr} : PySem.W.kitOne K (.ref C) (.ref C) = some true := if_pos (by simp)
theorem OwnC.same {K : PySem.W.Frag} {C : Addr} : PySem.W.notFirst K C (.ref C) = true := by simp [PySem.W.notFirst]
theorem OwnC.ty {K : PySem.W.Frag} {C a dx : Addr} {H : Hp} {fs : List (Str × V)} (o : OwnC K C) (c : Cls K C) (e : H a = some (.ins C dx fs)) : TyOf K H (.ref a) (.ref C) := .ins e c o.ha o.hn o.htk o.hm
end QO
end

section
set_option Elab.async false
set_option linter.all false
set_option maxRecDepth 100000
/-! Qdata: == and != of lists within lists and tuples, by what they hold. -/
namespace QB
open PySem PySem.Spec PyProof.Rows L2
structure Enc {α : Type} [DecidableEq α] (D : α → PyData) (ok : α → Prop) (n : Nat) : Prop where
  eq : ∀ x y, PyData.eqv (D x) (D y) = decide (x = y)
  lay : ∀ x, ok x → PyData.canLay0 (D x) = true
  dep : ∀ x, PyData.depth (D x) ≤ n
section
variable {α β : Type} [DecidableEq α] [DecidableEq β] {D : α → PyData} {E : β → PyData} {ok : α → Prop} {ok2 : β → Prop} {n m : Nat} {K : PySem.W.Frag} {H : Hp}
theorem Enc.eqAll (e : Enc D ok n) : ∀ l k : List α, PyData.eqvAll (l.map D) (k.map D) = decide (l = k)
  | [], [] => by simp [PyData.eqvAll]
  | [], _ :: _ => by simp [PyData.eqvAll]
  | _ :: _, [] => by simp [PyData.eqvAll]
  | x :: l, y :: k => by
    rw [List.map_cons, List.map_cons, PyData.eqvAll, e.eq, e.eqAll l k]
    by_cases h : x = y
    · subst h
      by_cases h2 : l = k <;> simp [h2]
    · simp [h]
theorem Enc.layAll (e : Enc D ok n) : ∀ l : List α, (∀ x ∈ l, ok x) → PyData.canLayAll0 (l.map D) = true
  | [], _ => by simp [PyData.canLayAll0]
  | x :: l, h => by
    rw [List.map_cons, PyData.canLayAll0, e.lay x (h x List.mem_cons_self), e.layAll l fun y hy => h y (List.mem_cons_of_mem _ hy)]
    rfl
theorem Enc.depAll (e : Enc D ok n) : ∀ l : List α, PyData.depthAll (l.map D) ≤ n
  | [] => by simp [PyData.depthAll]
  | x :: l => by
    rw [List.map_cons, PyData.depthAll]
    exact Nat.max_le.mpr ⟨e.dep x, e.depAll l⟩
theorem Enc.list (e : Enc D ok n) : Enc (fun l : List α => PyData.list (l.map D)) (fun l => ∀ x ∈ l, ok x) (n + 1) :=
  ⟨fun l k => by rw [PyData.eqv]; exact e.eqAll l k, fun l h => by rw [PyData.canLay0]; exact e.layAll l h, fun l => by rw [PyData.depth]; exact Nat.succ_le_succ (e.depAll l)⟩
theorem Enc.mono (e : Enc D ok n) (h : n ≤ m) : Enc D ok m := ⟨e.eq, e.lay, fun x => Nat.le_trans (e.dep x) h⟩
theorem Enc.pair (e : Enc D ok n) (f : Enc E ok2 n) : Enc (fun p : α × β => PyData.tuple [D p.1, E p.2]) (fun p => ok p.1 ∧ ok2 p.2) (n + 1) := by
  refine ⟨fun p q => ?_, fun p h => ?_, fun p => ?_⟩
  · rw [PyData.eqv, PyData.eqvAll, PyData.eqvAll, PyData.eqvAll, e.eq, f.eq, Bool.and_true]
    obtain ⟨p1, p2⟩ := p
    obtain ⟨q1, q2⟩ := q
    by_cases h1 : p1 = q1 <;> by_cases h2 : p2 = q2 <;> simp [h1, h2]
  · rw [PyData.canLay0, PyData.canLayAll0, PyData.canLayAll0, PyData.canLayAll0, e.lay _ h.1, f.lay _ h.2]
    rfl
  · rw [PyData.depth, PyData.depthAll, PyData.depthAll, PyData.depthAll]
    have := e.dep p.1
    have := f.dep p.2
    omega
theorem Enc.two (e : Enc D ok n) (f : Enc E ok2 n) : Enc (fun p : α × β => PyData.list [D p.1, E p.2]) (fun p => ok p.1 ∧ ok2 p.2) (n + 1) := by
  refine ⟨fun p q => ?_, fun p h => ?_, fun p => ?_⟩
  · rw [PyData.eqv, PyData.eqvAll, PyData.eqvAll, PyData.eqvAll, e.eq, f.eq, Bool.and_true]
    obtain ⟨p1, p2⟩ := p
    obtain ⟨q1, q2⟩ := q
    by_cases h1 : p1 = q1 <;> by_cases h2 : p2 = q2 <;> simp [h1, h2]
  · rw [PyData.canLay0, PyData.canLayAll0, PyData.canLayAll0, PyData.canLayAll0, e.lay _ h.1, f.lay _ h.2]
    rfl
  · rw [PyData.depth, PyData.depthAll, PyData.depthAll, PyData.depthAll]
    have := e.dep p.1
    have := f.dep p.2
    omega
theorem enc_str : Enc PyData.str (fun t => PyData.strOk t = true) 0 := ⟨fun x y => by
  rw [PyData.eqv]
  by_cases h : x = y <;> simp [h], fun x h => by rw [PyData.canLay0]; exact h, fun x => by simp [PyData.depth]⟩
theorem enc_int : Enc PyData.int (fun _ => True) 0 := ⟨fun x y => by
  rw [PyData.eqv]
  by_cases h : x = y <;> simp [h], fun x h => by rw [PyData.canLay0], fun x => by simp [PyData.depth]⟩
theorem enc_bool : Enc PyData.bool (fun _ => True) 0 := ⟨fun x y => by
  rw [PyData.eqv]
  by_cases h : x = y <;> simp [h], fun x h => by rw [PyData.canLay0], fun x => by simp [PyData.depth]⟩
def dW : Option Nat → PyData
  | none => .none
  | some n => .int (n : Int)
theorem enc_way : Enc dW (fun _ => True) 0 := by
  refine ⟨fun x y => ?_, fun x _ => ?_, fun x => ?_⟩
  · cases x <;> cases y <;> simp [dW, PyData.eqv]
    rename_i a b
    by_cases h : a = b
    · simp [h]
    · have : ¬ (a : Int) = (b : Int) := by omega
      simp [h, this]
  · cases x <;> simp [dW, PyData.canLay0]
  · cases x <;> simp [dW, PyData.depth]
def dWord (w : Word) : PyData := .list (w.map .str)
def dWays (w : Ways) : PyData := .list (w.map dW)
def dStd (s : Std) : PyData := .tuple [dWord s.1, dWays s.2]
def dForm (F : Form) : PyData := .list (F.map dStd)
def OkWord (w : Word) : Prop := ∀ t ∈ w, PyData.strOk t = true
def OkForm (F : Form) : Prop := ∀ s ∈ F, OkWord s.1
theorem enc_word : Enc dWord OkWord 1 := enc_str.list
theorem enc_ways : Enc dWays (fun w => ∀ x ∈ w, True) 1 := enc_way.list
theorem enc_std : Enc dStd (fun s => OkWord s.1 ∧ ∀ x ∈ s.2, True) 2 := enc_word.pair enc_ways
theorem enc_form : Enc dForm (fun F => ∀ s ∈ F, OkWord s.1 ∧ ∀ x ∈ s.2, True) 3 := enc_std.list
theorem OkForm.enc {F : Form} (h : OkForm F) : ∀ s ∈ F, OkWord s.1 ∧ ∀ x ∈ s.2, True := fun s hs => ⟨h s hs, fun _ _ => trivial⟩
theorem dpAll_map (f : α → V) (g : α → PyData) (h : ∀ x, Dp K H (f x) (g x)) : ∀ l : List α, DpAll K H (l.map f) (l.map g)
  | [] => .nil
  | x :: l => .cons (h x) (dpAll_map f g h l)
theorem dp_wd {a : Addr} {w : Word} (h : WordAt H a w) : Dp K H (.ref a) (dWord w) := .lst (SqL.of h) (dpAll_map _ _ (fun x => .str x) w)
theorem dp_way : ∀ x : Option Nat, Dp K H (vW x) (dW x)
  | none => .non
  | some n => .int (n : Int)
theorem dp_ways {a : Addr} {w : Ways} (h : WaysAt H a w) : Dp K H (.ref a) (dWays w) := .lst (SqL.of h) (dpAll_map _ _ dp_way w)
theorem dp_std {a : Addr} {s : Std} (h : StdAt H a s) : Dp K H (.ref a) (dStd s) := by
  obtain ⟨x, y, h1, h2, h3⟩ := h
  exact .tup (SqT.of h1) (.cons (dp_wd h2) (.cons (dp_ways h3) .nil))
theorem dp_form {a : Addr} {F : Form} (h : FormAt H a F) : Dp K H (.ref a) (dForm F) := by
  obtain ⟨ts, h1, h2⟩ := h
  refine .lst (SqL.of h1) ?_
  clear h1
  induction h2 with
  | nil => exact .nil
  | cons h _ ih => exact .cons (dp_std h) ih
theorem shaped_of (e : Enc D ok n) (hn : n ≤ 64) {x : α} (h : ok x) : SeqAt.shaped (D x) = true := by
  unfold SeqAt.shaped
  rw [Bool.and_eq_true]
  exact ⟨e.lay x h, decide_eq_true (Nat.le_trans (e.dep x) hn)⟩
theorem eq_enc (e : Enc D ok n) (hn : n ≤ 64) {u v : V} {x y : α} {Q : VK} (hx : Dp K H u (D x)) (hy : Dp K H v (D y)) (ox : ok x) (oy : ok y) (q : Q (.bl (decide (x = y))) H) : rEqD K u v H Q :=
  ⟨_, _, hx, hy, shaped_of e hn ox, shaped_of e hn oy, by rw [e.eq]; exact q⟩
theorem ne_enc (e : Enc D ok n) (hn : n ≤ 64) {u v : V} {x y : α} {Q : VK} (hx : Dp K H u (D x)) (hy : Dp K H v (D y)) (ox : ok x) (oy : ok y) (q : Q (.bl (!decide (x = y))) H) : rNeD K u v H Q :=
  ⟨_, _, hx, hy, shaped_of e hn ox, shaped_of e hn oy, by rw [e.eq]; exact q⟩
theorem eq_wd {a b : Addr} {v w : Word} {Q : VK} (hv : WordAt H a v) (hw : WordAt H b w) (ov : OkWord v) (ow : OkWord w) (q : Q (.bl (decide (v = w))) H) : rEqD K (.ref a) (.ref b) H Q := eq_enc enc_word (by decide) (dp_wd hv) (dp_wd hw) ov ow q
theorem ne_wd {a b : Addr} {v w : Word} {Q : VK} (hv : WordAt H a v) (hw : WordAt H b w) (ov : OkWord v) (ow : OkWord w) (q : Q (.bl (!decide (v = w))) H) : rNeD K (.ref a) (.ref b) H Q := ne_enc enc_word (by decide) (dp_wd hv) (dp_wd hw) ov ow q
theorem eq_form {a b : Addr} {F G : Form} {Q : VK} (hv : FormAt H a F) (hw : FormAt H b G) (ov : OkForm F) (ow : OkForm G) (q : Q (.bl (decide (F = G))) H) : rEqD K (.ref a) (.ref b) H Q := eq_enc enc_form (by decide) (dp_form hv) (dp_form hw) ov.enc ow.enc q
theorem ne_form {a b : Addr} {F G : Form} {Q : VK} (hv : FormAt H a F) (hw : FormAt H b G) (ov : OkForm F) (ow : OkForm G) (q : Q (.bl (!decide (F = G))) H) : rNeD K (.ref a) (.ref b) H Q := ne_enc enc_form (by decide) (dp_form hv) (dp_form hw) ov.enc ow.enc q
end
end QB
end

section
set_option Elab.async false
set_option linter.all false
set_option maxRecDepth 100000
set_option maxHeartbeats 2000000
/-! Qexc: a caught exception that outlives its suite. -/
namespace QX
open PySem PySem.Spec PyProof.Rows L2
/-- a caught exception that is kept: its class, its dict -/
def Kept (cls : Value) (d : Option Addr) (a : Addr) : HO := .ext fun h => ∃ (oe : Obj) (vs : Array Value), h.get? a = some oe ∧ Zc cls d oe ∧ oe.data = .fields vs
theorem kept_ok {P : Program} {w : World} {H : Hp} {h : Heap} {a : Addr} {cls : Value} {d : Option Addr} {ob : Obj} {fv : Array Value} (e : h.get? a = some ob) (z : Zc cls d ob) (hd : ob.data = .fields fv) : ObjOk P w H h a (Kept cls d a) :=
  ⟨⟨ob, fv, e, z, hd⟩, ⟨ob, e⟩, fun _ _ ⟨u, v, q, r⟩ k => ⟨u, v, k u q, r⟩⟩
theorem kept_get {P : Program} {w : World} {H : Hp} {h : Heap} {a : Addr} {cls : Value} {d : Option Addr} (hok : HOk P w H h) (e : H a = some (Kept cls d a)) : ∃ (ob : Obj) (fv : Array Value), h.get? a = some ob ∧ Zc cls d ob ∧ ob.data = .fields fv :=
  (show ObjOk P w H h a (.ext _) from hok a _ e).1
/-- what stood before a was made is not a -/
structure Apart (X : Cx) (pins : List (Addr × Obj)) (a : Addr) : Prop where
  s0 : ∀ b ob, X.s_0.heap.get? b = some ob → b ≠ a
  loc : X.env.locals ≠ a
  cell : ∀ y c, X.env.cells.lookup y = some c → c ≠ a
  pin : ∀ q ∈ X.pn ++ pins, q.1 ≠ a
section
variable {X : Cx} {pins : List (Addr × Obj)} {σ : L2.St} {H : Hp} {s : Shared} {a : Addr}
theorem Apart.of (I : Inv X pins σ H s) (hex : X.ex = []) (n : s.heap.get? a = none) : Apart X pins a := by
  have out : ∀ {b : Addr} {ob : Obj}, s.heap.get? b = some ob → b ≠ a := fun e z => by
    rw [z, n] at e
    cases e
  refine ⟨fun b ob e => ?_, ?_, fun y c e => ?_, fun q hq => out (I.pin q hq).1⟩
  · obtain ⟨u, hu⟩ := I.base.there b ob e (by rw [hex]; simp)
    exact out hu
  · obtain ⟨m, ⟨u, es, ep, hu, _⟩, _⟩ := I.loc
    exact out hu
  · obtain ⟨v, u, hu, _⟩ := I.cell y c e
    exact out hu
theorem track {o : HO} (I : Inv X pins σ H s) (ap : Apart X pins a) (na : H a = none) (ok : ObjOk X.prog X.w (upd H a o) s.heap a o) : Inv X pins σ (upd H a o) s := by
  have stays : ∀ {b : Addr} {u : HO}, H b = some u → upd H a o b = some u := fun e => (upd_ne (ne_of_none e na)).trans e
  exact { I with
    base := ⟨I.base.keep, I.base.slot, fun b ob e n hq => (upd_ne (ap.s0 b ob e)).trans (I.base.free b ob e n hq), I.base.there, fun b xs e => stays (I.base.tups b xs e), fun b u xs e => stays (I.base.frzs b u xs e), fun b ps e => by
      obtain ⟨m, q⟩ := I.base.tbls b ps e
      exact ⟨m, stays q⟩⟩
    free := (upd_ne ap.loc).trans I.free
    freeC := fun y c e => (upd_ne (ap.cell y c e)).trans (I.freeC y c e)
    pin := fun q hq => by
      obtain ⟨h1, h2, h3⟩ := I.pin q hq
      exact ⟨h1, (upd_ne (ap.pin q hq)).trans h2, h3⟩
    hok := I.hok.laidN (fun _ _ e => e) na ok }
end
/-- what a clause that keeps its exception wishes: at the suite's end the exception is tracked -/
def wKeep (K : PySem.W.Frag) (c : Value) (i : Nat) (ts : Addr → Value → Option Addr → TS) (Wout : WX) (D : Ends) : WX := fun cls d σ H =>
  ∃ b, PySem.W.exmOne K cls c = some b ∧ (b = false → Wout cls d σ H) ∧
    (b = true → ∀ a, H a = none → ts a cls d { nx := fun σ1 H1 => D.nx (σ1.set i none) (upd H1 a (Kept cls d a)), rt := fun v H1 => D.rt v (upd H1 a (Kept cls d a)), bk := fun σ1 H1 => D.bk (σ1.set i none) (upd H1 a (Kept cls d a)), ct := fun σ1 H1 => D.ct (σ1.set i none) (upd H1 a (Kept cls d a)) } (σ.set i (some (.ref a))) H)
section
variable {X : Cx} {x n : Str} {c : Value} {i : Nat} {body rest : List Stmt} {st₀ : Stmt} {np hpos tpos : Pos} {tb : WX → TS} {ts : Addr → Value → Option Addr → TS} {Wout : WX}
/-- the class that the clause names, looked up while an exception is handled -/
theorem clause_name {pins : List (Addr × Obj)} {σ : L2.St} {H : Hp} {s : Shared} {a : Addr} {pn : List (Addr × Obj)} (hc : Names X x c) (S : Inv (X.suite a pn) [] σ H s) {Q : Value → Shared → Prop} {E : Value → Shared → Prop} (q : Q c s) :
    wpAny (model X.prog X.w) (X.A.mark (some (.ref a))) (eval (.Name x np) X.env) Q E s := by
  rcases hc with ⟨h1, h2, h3 | ⟨h3, h4, h5⟩⟩
  · exact ld_glob (X := X.suite a pn) S h1 h3 q h2
  · exact ld_blt (X := X.suite a pn) S h1 h3 h4 q h5 h2
theorem keep_catch {pins : List (Addr × Obj)} {xe : Value → Shared → Prop} {D : Ends} {u : Value} {s' : Shared} (ok : X.Ok) (hs : X.stack = X.env :: X.outer) (hf : X.env.frame = some X.env.locals) (hex : X.ex = []) (hN : X.N.Nodup) (hi : X.N[i]? = some n) (hln : X.env.kindOf n = some .local) (hc : Names X x c) (tk : Takes X Wout)
    (hsu : ∀ (a : Addr) (oe : Obj) (cls : Value) (d : Option Addr) (pn : List (Addr × Obj)), Zc cls d oe → (∃ vs, oe.data = .fields vs) → PSs (X.suite a ((a, oe) :: pn)) (st₀ :: rest) (ts a cls d))
    (xx : XE (X.tr (X.pn ++ pins) xe) (wKeep X.K c i ts Wout D) u s') :
    wpAny (model X.prog X.w) X.A (noteFrame u X.env) (fun _ s₂ => wpAny (model X.prog X.w) X.A (setFlight u none) (fun _ s₃ => wpAny (model X.prog X.w) X.A (handleBy u X.env [.ExceptHandler (some (.Name x np)) (some n) (st₀ :: rest) hpos]) (SP X pins D) X.xe s₃) X.xe s₂) X.xe s' := by
  have hfr : X.A.frames = some (X.env :: X.outer) := by rw [ok.frames, hs]
  obtain ⟨a, B, sI, pins', σ', H', cls, d, rfl, J', nb, up, sky, na, os, ag, b, hb, hno, hyes⟩ := xx
  replace J' : Inv X pins σ' H' sI := J'.ofTry ok
  have apart : sI.heap.get? a = none → Apart X pins a := Apart.of J' hex
  replace sky : Sky B (X.env :: X.outer) a (Zc cls d) X.env.locals s'.heap := hs ▸ sky
  refine Sky.land Zc.steady hfr hf sky fun g1 fl1 up1 => ?_
  have I1 : Inv X pins σ' H' { s' with heap := g1 } := J'.landed nb fl1.1 (up.trans up1) os ag
  obtain ⟨o1, v1, k1, z1, d1⟩ := fl1.there
  have noFrame : a ∉ frs (X.env :: X.outer) := fun hm => by
    obtain ⟨_, o2, k2, hnf⟩ := fl1.2.2.1.mem hm
    rw [k1] at k2
    cases k2
    exact hnf _ d1
  have isIn : ∀ e ∈ X.env :: X.outer, e.frame ≠ some a := fun e he q => noFrame (List.mem_filterMap.mpr ⟨e, he, q⟩)
  have nL : a ≠ X.env.locals := fun z => isIn X.env List.mem_cons_self (z ▸ hf)
  have nF : a ∉ X.fs := fun hm => by
    obtain ⟨e, he, q⟩ := List.mem_filterMap.mp hm
    exact isIn e (List.mem_cons_of_mem _ he) q
  have ap : Apart X pins a := apart (by
    cases q : sI.heap.get? a with
    | none => rfl
    | some o2 =>
      have z := nb a o2 q (by rw [hs]; exact noFrame)
      rw [fl1.2.1] at z
      cases z)
  have S1 := I1.suite k1 d1 na nL nF
  refine wpAny_handleBy_cons (codeAny_handlers_test (clause_name (pins := pins) hc S1 ?_)) (fun q => by cases q)
  have ty : PySem.W.Looks (model X.prog X.w) g1 (typeOf (.ref a)) cls := fun A Q E t k q => wpAny_typeOf_ref (k _ _ k1) (z1.1.symm ▸ q)
  refine (PySem.W.exm_one (M := model X.prog X.w) I1.kIn ty hb).here ?_
  cases b with
  | true =>
    refine codeAny_handlers_suite_as (HandSPX.lands_againZ fl1 fun g2 fl2 up2 => ?_)
    have I2 : Inv X pins σ' H' { s' with heap := g2 } := J'.landed nb fl2.1 ((up.trans up1).trans up2) os ag
    obtain ⟨o2, v2, k2, z2, d2⟩ := fl2.there
    refine store_ok (X := X.suite a ((a, o2) :: (X.pn ++ pins))) (v := .ref a) (I2.suite k2 d2 na nL nF) hN hi (.inl hln) rfl (fun s5 S5 => ?_) (.inr hln)
    refine wpAny_mono ((hsu a o2 cls d (X.pn ++ pins) z2 ⟨_, d2⟩).run [] s5 _ H' _ S5 (hyes rfl a na)) (fun fl s6 hsp => ?_) (fun _ _ z => z.elim)
    have fin : ∀ {τ : L2.St} {G : Hp} {Q : Shared → Prop}, Inv (X.suite a ((a, o2) :: (X.pn ++ pins))) [] τ G s6 → (∀ s7, Inv X pins (τ.set i none) (upd G a (Kept cls d a)) s7 → Q s7) →
        wpAny (model X.prog X.w) X.A (do bindName X.env n .none; unbindBehindTheSuite X.env n hpos) (fun _ s7 => Q s7) X.xe s6 := fun S6 hq => by
      obtain ⟨h1, h2, _⟩ := S6.pin (a, o2) (List.mem_append_left _ List.mem_cons_self)
      exact gone_ok (track (S6.unsuite ok) ap h2 (kept_ok h1 z2 d2)) hN hi hln hq
    cases fl with
    | next =>
      obtain ⟨τ, G, S6, q6⟩ := hsp
      exact fin S6 fun s7 J7 => ⟨_, _, J7, q6⟩
    | brk =>
      obtain ⟨τ, G, S6, q6⟩ := hsp
      exact fin S6 fun s7 J7 => ⟨_, _, J7, q6⟩
    | cont =>
      obtain ⟨τ, G, S6, q6⟩ := hsp
      exact fin S6 fun s7 J7 => ⟨_, _, J7, q6⟩
    | ret r =>
      obtain ⟨v6, τ, G, S6, r6, q6⟩ := hsp
      exact fin S6 fun s7 J7 => ⟨_, _, _, J7, r6, q6⟩
  | false =>
    refine wpAny_handleBy_nil ?_
    obtain ⟨_, _, _, o3, v3, T, oT, ts', k3, z3, d3, h3, r3⟩ := id fl1
    unfold PySem.passOn
    refine wpAny_bind (wpAny_field k3 d3 h3 ?_)
    rw [if_neg (fun q : (Value.ref T == Value.none) = true => by simp at q)]
    have out : wpAny (model X.prog X.w) X.A (setFlight (.ref a) X.env.frame) (fun _ s4 => wpAny (model X.prog X.w) X.A (throw (.ref a) : Sem Flow) (SP X pins D) X.xe s4) X.xe { s' with heap := g1 } := by
      rw [hf]
      refine HandSPX.setFlight_upZ fl1 fun g2 held up2 => wpAny_throw (tk _ _ ⟨a, B, sI, pins, σ', H', cls, d, rfl, J', nb, (up.trans up1).trans up2, .inr (.inr ?_), na, os, ag, hno rfl⟩)
      rw [hs]
      exact held
    first
      | exact wpAny_bind (wpAny_pure (wpAny_bind out))
      | exact wpAny_bind out
/-- try: body / except x as n: suite, the exception kept -/
theorem ps_try_keep (hs : X.stack = X.env :: X.outer) (hf : X.env.frame = some X.env.locals) (hex : X.ex = []) (hN : X.N.Nodup) (hi : X.N[i]? = some n) (hln : X.env.kindOf n = some .local) (hc : Names X x c) (tk : Takes X Wout)
    (hb : ∀ (W : WX) (pn : List (Addr × Obj)) (xe : Value → Shared → Prop), Takes (X.tr pn xe) W → PassesOwn (model X.prog X.w) X.A X.env xe → PSs (X.tr pn xe) body (tb W))
    (hsu : ∀ (a : Addr) (oe : Obj) (cls : Value) (d : Option Addr) (pn : List (Addr × Obj)), Zc cls d oe → (∃ vs, oe.data = .fields vs) → PSs (X.suite a ((a, oe) :: pn)) (st₀ :: rest) (ts a cls d)) :
    PS X (.Try body [.ExceptHandler (some (.Name x np)) (some n) (st₀ :: rest) hpos] [] [] tpos) (fun D σ H => tb (wKeep X.K c i ts Wout D) D σ H) := by
  refine ⟨fun pins s σ H D I h => ?_⟩
  refine wpAny_Try_except (wpAny_mono ((hb (wKeep X.K c i ts Wout D) (X.pn ++ pins) _ (fun u s' xx => ?_) PassesOwn.looking).run [] s σ H D (I.toTry _) h) (fun fl s1 hsp => ?_) fun _ _ he => he)
  · exact keep_catch I.ok hs hf hex hN hi hln hc tk hsu xx
  · cases fl with
    | next =>
      obtain ⟨τ, G, J, q⟩ := hsp
      exact wpAny_execs_nil ⟨τ, G, J.ofTry I.ok, q⟩
    | brk =>
      obtain ⟨τ, G, J, q⟩ := hsp
      exact ⟨τ, G, J.ofTry I.ok, q⟩
    | cont =>
      obtain ⟨τ, G, J, q⟩ := hsp
      exact ⟨τ, G, J.ofTry I.ok, q⟩
    | ret r =>
      obtain ⟨v, τ, G, J, r1, q⟩ := hsp
      exact ⟨v, τ, G, J.ofTry I.ok, r1, q⟩
end
end QX
end

section
set_option Elab.async false
set_option linter.all false
set_option maxRecDepth 100000
set_option maxHeartbeats 2000000
/-! Qexc2: isinstance of a kept exception, its fields. -/
namespace QX
open PySem PySem.Spec PyProof.Rows L2
/-- its dict, if it has one, is tracked -/
def DictAt (H : Hp) (d : Option Addr) : Prop := d = none ∨ ∃ (dd : Addr) (fs : List (Str × V)), d = some dd ∧ H dd = some (.xd fs)
section
variable {X : Cx} {pins : List (Addr × Obj)} {σ : L2.St} {H : Hp} {s : Shared} {a D : Addr} {d : Option Addr}
theorem kept_inst (I : Inv X pins σ H s) (ha : H a = some (Kept (.ref D) d a)) (hd : DictAt H d) : ∃ (ob : Obj) (od : Option Obj), PySem.W.InstAt s.heap a ob D od := by
  obtain ⟨⟨oc, od, oda, osl⟩, fv, e, ⟨z1, z2⟩, z3⟩ := kept_get I.hok ha
  dsimp only at z1 z2 z3
  subst z1 z2 z3
  rcases hd with rfl | ⟨dd, fs, rfl, hx⟩
  · exact ⟨_, none, e, rfl, rfl, trivial⟩
  · obtain ⟨m, ⟨u, es, ep, hu, _⟩, _⟩ := (show ObjOk X.prog X.w H s.heap dd (.xd fs) from I.hok dd _ hx)
    exact ⟨_, some u, e, rfl, rfl, hu⟩
theorem kept_kit (I : Inv X pins σ H s) (C : ExcC X.K D) (ha : H a = some (Kept (.ref D) d a)) (hd : DictAt H d) : ∃ P : Heap → Prop, PySem.W.KitX X.K (.ref a) (.ref D) P ∧ P s.heap := by
  obtain ⟨ob, od, J⟩ := kept_inst I ha hd
  have hcl : (PySem.W.clsIn X.K D).isSome = true := by
    have h := C.hd
    unfold PySem.W.hasDictIn at h
    cases e : PySem.W.clsIn X.K D with
    | none =>
      rw [e] at h
      cases h
    | some _ => rfl
  exact ⟨_, PySem.W.kitx_exc (od := od) hcl C.hg C.hk C.hs C.ha C.hn C.ht C.hm, J⟩
end
/-- isinstance(e, c), e kept -/
def rIsX (K : PySem.W.Frag) : List V → Hp → VK → Prop := fun xs H Q => ∃ (a D : Addr) (d : Option Addr) (c : V) (u : Value) (b : Bool), xs = [.ref a, c] ∧ H a = some (Kept (.ref D) d a) ∧ DictAt H d ∧ ExcC K D ∧ ClsV c u ∧ PySem.W.kitOne K (.ref D) u = some b ∧ Q (.bl b) H
/-- isinstance(e, (c1, c2, ..)), e kept -/
def rIsXT (K : PySem.W.Frag) : List V → Hp → VK → Prop := fun xs H Q => ∃ (a D tp : Addr) (d : Option Addr) (cs : List V) (us : List Value) (b : Bool), xs = [.ref a, .ref tp] ∧ H a = some (Kept (.ref D) d a) ∧ DictAt H d ∧ ExcC K D ∧ H tp = some (.tup cs) ∧ Paired ClsV cs us ∧ PySem.W.kitAny K (.ref D) us = some b ∧ Q (.bl b) H
section
variable {X : Cx}
theorem call_isX : CallR X (.builtin "isinstance") (rIsX X.K) := by
  intro pins s σ H xs us Q I r ⟨a, D, d, c, u, b, ex, ha, hd, C, hc, e, q⟩
  subst ex
  obtain ⟨w1, w2, rfl, r1, r2⟩ := vals2 r
  cases hc.eq r2
  cases (show w1 = Value.ref a from r1)
  obtain ⟨P, Z, p⟩ := kept_kit I C ha hd
  exact PySem.W.kia_one Z I.kIn p e (fun z => nomatch z) fun tk => ⟨.bl b, H, I.tok tk, rfl, q⟩
theorem call_isXT : CallR X (.builtin "isinstance") (rIsXT X.K) := by
  intro pins s σ H xs us Q I r ⟨a, D, tp, d, cs, ws, b, ex, ha, hd, C, hT, hc, e, q⟩
  subst ex
  obtain ⟨w1, w2, rfl, r1, r2⟩ := vals2 r
  cases (show w1 = Value.ref a from r1)
  cases (show w2 = Value.ref tp from r2)
  obtain ⟨P, Z, p⟩ := kept_kit I C ha hd
  obtain ⟨_, its, rv, ⟨oc, od, dt, sl⟩, h1, h2, n, h3⟩ := (show ObjOk X.prog X.w H s.heap tp (.tup cs) from I.hok tp _ hT)
  cases ClsV.all hc rv
  dsimp only at h2 h3
  subst h2 h3
  exact PySem.W.kia_tup Z I.kIn p h1 e (fun z => nomatch z) fun tk => ⟨.bl b, H, I.tok tk, rfl, q⟩
theorem call_isXK (K : PySem.W.Frag) (h : X.K = K := by rfl) : CallR X (.builtin "isinstance") (rIsX K) := h ▸ call_isX
theorem call_isXTK (K : PySem.W.Frag) (h : X.K = K := by rfl) : CallR X (.builtin "isinstance") (rIsXT K) := h ▸ call_isXT
/-- e.f, e kept -/
def tFx (K : PySem.W.Frag) (f : Str) (te : TE) : TE := fun σ H Q => te σ H fun x H1 => ∃ (a C dd : Addr) (fs : List (Str × V)) (v : V), x = .ref a ∧ H1 a = some (Kept (.ref C) (some dd) a) ∧ XfC K C ∧ PySem.W.findIn K (.ref C) f = some none ∧ H1 dd = some (.xd fs) ∧ fs.lookup f = some v ∧ Q v H1
theorem pe_fx {e : Expr} {te : TE} {f : Str} {pos : Pos} (he : PE X e te) (hb : attributeBase e f X.env (eval e X.env) = eval e X.env) : PE X (.Attribute e f pos) (tFx X.K f te) := by
  refine ⟨fun pins s σ H Q I h => attr_of hb (thn (he.run pins s σ H _ I h) fun u s1 ⟨x, H1, I1, rx, a, C, dd, fs, v, ex, ha, T, hno, hx, hl, q⟩ => ?_)⟩
  subst ex
  cases (show u = Value.ref a from rx)
  obtain ⟨⟨oc, od, oda, osl⟩, fv, k1, ⟨z1, z2⟩, z3⟩ := kept_get I1.hok ha
  dsimp only at z1 z2 z3
  subst z1 z2 z3
  obtain ⟨m, hns, hr⟩ := (show ObjOk X.prog X.w H1 s1.heap dd (.xd fs) from I1.hok dd _ hx)
  obtain ⟨ot, ho, hlk⟩ := lookIn_ns hns
  obtain ⟨u, hu, ru⟩ := RelO.some_of (v := v) (o := m f) (by rw [← hl]; exact hr f)
  exact HandSPX.exc_get I1.kIn (od := some ot) ⟨k1, rfl, rfl, ho⟩ T.ga T.gg T.exC (PySem.W.findObj_own T.hdC hno rfl (by rw [hlk, hu])) (handed_of ru) ⟨v, H1, I1.tok _, ru, q⟩
theorem pe_fxK (K : PySem.W.Frag) {e : Expr} {te : TE} {f : Str} {pos : Pos} (he : PE X e te) (hb : attributeBase e f X.env (eval e X.env) = eval e X.env) (h : X.K = K := by rfl) : PE X (.Attribute e f pos) (tFx K f te) := h ▸ pe_fx he hb
end
end QX
end

section
set_option Elab.async false
set_option linter.all false
set_option maxRecDepth 100000
/-! Qend: from the Hook's facts to the text's. -/
namespace QE
open PySem PySem.Spec PyProof.Rows L2 He
def ownB (K : PySem.W.Frag) (C : Addr) : Bool :=
  (eqO (PySem.W.findIn K (.ref C) "__class__") (some (some (.builtin "object.__class__"))) && (eqO (PySem.W.specialIn K (.builtin "object.__class__") "__get__") (some (some (.builtin "getset_descriptor.__get__"))) &&
  (decide (PySem.W.takesIn K (.builtin "object.__class__") = some true) && decide (PySem.W.mroIn K C (.type "object") = some true)))) &&
  ((["list", "tuple", "str", "int", "bool", "NoneType", "dict"].all fun T => decide (PySem.W.kitOne K (.type T) (.ref C) = some false) && PySem.W.notFirst K C (.type T)) &&
  (["list", "tuple", "str", "int", "bool"].all fun T => decide (PySem.W.kitOne K (.ref C) (.type T) = some false)))
theorem ownB_ok {K : PySem.W.Frag} {C : Addr} (h : ownB K C = true) : QO.OwnC K C := by
  obtain ⟨h1, h2⟩ := ba h
  obtain ⟨a1, h1⟩ := ba h1
  obtain ⟨a2, h1⟩ := ba h1
  obtain ⟨a3, a4⟩ := ba h1
  obtain ⟨h3, h4⟩ := ba h2
  have k1 := fun T (m : T ∈ ["list", "tuple", "str", "int", "bool", "NoneType", "dict"]) => ba (List.all_eq_true.mp h3 T m)
  have k2 := fun T (m : T ∈ ["list", "tuple", "str", "int", "bool"]) => of_decide_eq_true (List.all_eq_true.mp h4 T m)
  have k3 := fun T (m : T ∈ ["list", "tuple", "str", "int", "bool", "NoneType", "dict"]) => of_decide_eq_true (k1 T m).1
  have k4 := fun T (m : T ∈ ["list", "tuple", "str", "int", "bool", "NoneType", "dict"]) => (k1 T m).2
  exact ⟨eqO_ok a1, eqO_ok a2, of_decide_eq_true a3, of_decide_eq_true a4, k3 _ (by simp), k3 _ (by simp), k3 _ (by simp), k3 _ (by simp), k3 _ (by simp), k3 _ (by simp), k3 _ (by simp),
    k2 _ (by simp), k2 _ (by simp), k2 _ (by simp), k2 _ (by simp), k2 _ (by simp), k4 _ (by simp), k4 _ (by simp), k4 _ (by simp), k4 _ (by simp), k4 _ (by simp), k4 _ (by simp), k4 _ (by simp)⟩
theorem funD_fun {K : PySem.W.Frag} {x q : Str} {st : Stmt} {f : Addr} {fd : FuncData} (F : FunD K x q (defArgs st) (defBody st) (defScope st) [] [] f fd) : L2.Fun K x q st f fd := by
  obtain ⟨oc, od, dV, kV, doc, pm, an, cdv, ct, osl, h1, h2, h3, h4, h5⟩ := F.ex
  have e : dV = .none := by
    rcases h4 with ⟨_, h4⟩ | ⟨h4, _⟩
    · exact h4
    · exact absurd rfl h4
  subst e
  exact ⟨⟨oc, od, kV, doc, pm, an, cdv, ct, osl, h1, h2, h3⟩, F.kp⟩
theorem funC_of {K : PySem.W.Frag} {x q : Str} {st : Stmt} {p : Str × Option Str} {fd : FuncData} (F : FunD K x q (defArgs st) (defBody st) (defScope st) [] [] (fAd K p) fd) : QB.FunC K x q st (fAd K p) fd (codeOf K p) := by
  obtain ⟨oc, od, kV, doc, pm, an, cdv, ct, osl, h1, h2, h3⟩ := (funD_fun F).ex
  obtain ⟨c, rfl⟩ := codeIn_ref h3
  have e : codeOf K p = c := codeOf_eq h2 (by rw [h1])
  rw [e]
  exact ⟨⟨oc, od, kV, doc, pm, an, ct, osl, h1, h2, h3⟩⟩
end QE
end

section
set_option Elab.async false
set_option linter.all false
set_option maxRecDepth 100000
set_option maxHeartbeats 2000000
/-! Qcls: the text's own exception classes, from the top's facts. -/
namespace QX
open PySem PySem.Spec PyProof.Rows L2 He
/-- an own exception class whose __init__ (at fI) writes the field f -/
structure ExcT (K : PySem.W.Frag) (C fI : Addr) (f : Str) : Prop where
  oex : OexC K C
  exc : ExcC K C
  xf : XfC K C
  noF : PySem.W.findIn K (.ref C) f = some none
  iC : PySem.W.findIn K (.ref C) "__init__" = some (some (.ref fI))
  tI : PySem.W.typeIn K (.ref fI) = some (.type "function")
/-- the class object is one of an exception class over ValueError -/
def clsB (K : PySem.W.Frag) (C : Addr) : Bool := match K.lookup C with
  | none => false
  | some ob => decide (ob.cls = .type "type") && (match ob.data with
    | .cls r => r.hasDict && (!r.hasDel && ((match r.mro with
      | m :: over => decide (m = .ref C) && PySem.HandSPX.refsVE over
      | [] => false) && (match ob.slots.toList with
      | [_, _, _, _, m, _] => decide (m = some (.builtin "ValueError.__new__"))
      | _ => false)))
    | _ => false)
theorem clsB_ok {K : PySem.W.Frag} {C : Addr} (h : clsB K C = true) : ∃ nm q N bs bm sn sub ab col dd k0 k1 k2 k3 k5, K.lookup C = some (excClassObj nm q C N bs bm true sn sub ab col dd k0 k1 k2 k3 k5 "ValueError.__new__") ∧ PySem.HandSPX.refsVE bm = true := by
  unfold clsB at h
  cases e : K.lookup C with
  | none =>
    rw [e] at h
    cases h
  | some ob =>
    rw [e] at h
    obtain ⟨oc, od, dt, sl⟩ := ob
    obtain ⟨h1, h2⟩ := ba h
    have h1 : oc = .type "type" := of_decide_eq_true h1
    subst h1
    cases dt with
    | cls r =>
      obtain ⟨nm, bs, mro, ns, qn, hd, sn, sub, ab, col, del⟩ := r
      obtain ⟨h3, h2⟩ := ba h2
      obtain ⟨h4, h2⟩ := ba h2
      obtain ⟨h5, h6⟩ := ba h2
      have h3 : hd = true := h3
      have h9 : del = false := by
        have h4 : (!del) = true := h4
        cases del with
        | false => rfl
        | true => cases h4
      clear h4
      subst h3 h9
      cases mro with
      | nil => cases h5
      | cons m over =>
        obtain ⟨h5, h7⟩ := ba h5
        have h5 : m = .ref C := of_decide_eq_true h5
        subst h5
        obtain ⟨l⟩ := sl
        match l, h6 with
        | [k0, k1, k2, k3, m4, k5], h6 =>
          have h6 : m4 = some (.builtin "ValueError.__new__") := of_decide_eq_true h6
          subst h6
          exact ⟨nm, qn, ns, bs, over, sn, sub, ab, col, od, k0, k1, k2, k3, k5, rfl, h7⟩
    | _ => cases h2
def excB (K : PySem.W.Frag) (C : Addr) : Bool :=
  eqO (PySem.W.findIn K (.ref C) "__getattribute__") (some (some (.builtin "BaseException.__getattribute__"))) && (eqO (PySem.W.findIn K (.ref C) "__getattr__") (some none) && (decide (PySem.W.subIn K (.ref C) (.type "BaseException") = some true) && (PySem.W.hasDictIn K C &&
  (eqO (PySem.W.findIn K (.ref C) "__class__") (some (some (.builtin "object.__class__"))) && (eqO (PySem.W.specialIn K (.builtin "object.__class__") "__get__") (some (some (.builtin "getset_descriptor.__get__"))) &&
  (decide (PySem.W.takesIn K (.builtin "object.__class__") = some true) && decide (PySem.W.mroIn K C (.type "object") = some true)))))))
theorem excB_ok {K : PySem.W.Frag} {C : Addr} (h : excB K C = true) : ExcC K C ∧ XfC K C := by
  obtain ⟨h1, h⟩ := ba h
  obtain ⟨h2, h⟩ := ba h
  obtain ⟨h3, h⟩ := ba h
  obtain ⟨h4, h⟩ := ba h
  obtain ⟨h5, h⟩ := ba h
  obtain ⟨h6, h⟩ := ba h
  obtain ⟨h7, h8⟩ := ba h
  exact ⟨⟨eqO_ok h1, eqO_ok h2, of_decide_eq_true h3, h4, eqO_ok h5, eqO_ok h6, of_decide_eq_true h7, of_decide_eq_true h8⟩, ⟨eqO_ok h1, eqO_ok h2, of_decide_eq_true h3, h4⟩⟩
def excTB (K : PySem.W.Frag) (C fI : Addr) (f : Str) : Bool :=
  clsB K C && (excB K C && (eqO (PySem.W.findIn K (.ref C) "__setattr__") (some (some (.builtin "object.__setattr__"))) && (decide (PySem.W.typeIn K (.ref C) = some (.type "type")) && (PySem.W.keepIn K (.ref C) &&
  (eqO (PySem.W.findIn K (.ref C) f) (some none) && (eqO (PySem.W.findIn K (.ref C) "__init__") (some (some (.ref fI))) && decide (PySem.W.typeIn K (.ref fI) = some (.type "function"))))))))
theorem excTB_ok {K : PySem.W.Frag} {C fI : Addr} {f : Str} (h : excTB K C fI f = true) : ExcT K C fI f := by
  obtain ⟨h1, h⟩ := ba h
  obtain ⟨h2, h⟩ := ba h
  obtain ⟨h3, h⟩ := ba h
  obtain ⟨h4, h⟩ := ba h
  obtain ⟨h5, h⟩ := ba h
  obtain ⟨h6, h⟩ := ba h
  obtain ⟨h7, h8⟩ := ba h
  obtain ⟨e1, e2⟩ := excB_ok h2
  exact ⟨⟨clsB_ok h1, eqO_ok h3, e1.hs, of_decide_eq_true h4, h5⟩, e1, e2, eqO_ok h6, eqO_ok h7, of_decide_eq_true h8⟩
/-- an own exception class without __init__ -/
structure ExcU (K : PySem.W.Frag) (C : Addr) : Prop where
  exc : ExcC K C
  tyC : PySem.W.typeIn K (.ref C) = some (.type "type")
  kC : PySem.W.keepIn K (.ref C) = true
def isB (K : PySem.W.Frag) (D C : Addr) (b : Bool) : Bool := decide (PySem.W.kitOne K (.ref D) (.ref C) = some b)
def isTB (K : PySem.W.Frag) (D : Addr) (T : String) (b : Bool) : Bool := decide (PySem.W.kitOne K (.ref D) (.type T) = some b)
def exmB (K : PySem.W.Frag) (D C : Addr) : Bool := decide (PySem.W.exmOne K (.ref D) (.ref C) = some true)
/-! what __init__ of such a class keeps -/
def spExI (K : PySem.W.Frag) (C : Addr) (f : Str) : Sp := fun vs H Q _ => ∃ (a : Addr) (y : V), vs = [.ref a, y] ∧ H a = some (exo a C none) ∧ ∀ dx, H dx = none → dx ≠ a → Q .non (upd (upd H dx (exd dx [(f, y)])) a (exo a C (some dx)))
/-- raise C(e): the reading behind e -/
theorem mkO_of {K : PySem.W.Frag} {C : Addr} {f : Str} {H1 : Hp} {v : V} {Q : XK} (k : ∀ d, H1 d = none → Q (.ref C) (some d) (upd H1 d (.xd [(f, v)]))) :
    ([v] : List V).length ≤ 1000 ∧ ∀ a, H1 a = none → spExI K C f (.ref a :: ([v] ++ [])) (upd H1 a (exo a C none))
      (fun v H2 => v = .non ∧ ∃ (d : Addr) (fs : List (Str × V)), H2 a = some (exo a C (some d)) ∧ H2 d = some (exd d fs) ∧ H1 d = none ∧ Q (.ref C) (some d) (upd (del H2 a) d (.xd fs))) (fun _ _ _ => False) := by
  refine ⟨by show 1 ≤ 1000; decide, fun a ha => ⟨a, v, rfl, upd_same, fun dx hd hne => ⟨rfl, dx, _, upd_same, Eq.trans (upd_ne hne) upd_same, ?_, ?_⟩⟩⟩
  · rw [← hd, upd_ne hne]
  · have hn : H1 dx = none := by rw [← hd, upd_ne hne]
    have e : upd (del (upd (upd (upd H1 a (exo a C none)) dx (exd dx [(f, v)])) a (exo a C (some dx))) a) dx (.xd [(f, v)]) = upd H1 dx (.xd [(f, v)]) := by
      funext b
      by_cases h1 : b = dx
      · subst h1
        rw [upd_same, upd_same]
      · rw [upd_ne h1, upd_ne h1]
        by_cases h2 : b = a
        · subst h2
          rw [del_same, ha]
        · rw [del_ne h2, upd_ne h2, upd_ne h1, upd_ne h2]
    rw [e]
    exact k dx hn
end QX
end

section
set_option Elab.async false
set_option linter.all false
set_option maxRecDepth 100000
set_option maxHeartbeats 2000000
/-! Qval: any plain values as data (an empty dict among them), read off the tracked heap; repr of them; a class made in a suite that may raise. -/
namespace QV
open PySem PySem.Spec PyProof.Rows L2 QB
mutual
/-- a value that is this data, each part of it tracked -/
inductive Dv (H : Hp) : V → PyData → Prop
  | non : Dv H .non .none
  | bl (b : Bool) : Dv H (.bl b) (.bool b)
  | int (i : Int) : Dv H (.int i) (.int i)
  | str (x : Str) : Dv H (.str x) (.str x)
  | lst {a : Addr} {xs : List V} {ds : List PyData} : H a = some (.lst xs) → DvAll H xs ds → Dv H (.ref a) (.list ds)
  | tup {a : Addr} {xs : List V} {ds : List PyData} : H a = some (.tup xs) → DvAll H xs ds → Dv H (.ref a) (.tuple ds)
  | dct {a : Addr} : H a = some (.dK []) → Dv H (.ref a) (.dict [])
inductive DvAll (H : Hp) : List V → List PyData → Prop
  | nil : DvAll H [] []
  | cons {v : V} {vs : List V} {d : PyData} {ds : List PyData} : Dv H v d → DvAll H vs ds → DvAll H (v :: vs) (d :: ds)
end
def tyD : PyData → Value
  | .none => .type "NoneType"
  | .bool _ => .type "bool"
  | .int _ => .type "int"
  | .str _ => .type "str"
  | .list _ => .type "list"
  | .tuple _ => .type "tuple"
  | .dict _ => .type "dict"
def isSD : PyData → Bool
  | .str _ => true
  | _ => false
def isLD : PyData → Bool
  | .list _ => true
  | _ => false
def isTD : PyData → Bool
  | .tuple _ => true
  | _ => false
def isID : PyData → Bool
  | .int _ => true
  | .bool _ => true
  | _ => false
def isBD : PyData → Bool
  | .bool _ => true
  | _ => false
theorem Dv.ty (K : PySem.W.Frag) {H : Hp} {v : V} {d : PyData} (h : Dv H v d) : TyX K H v (tyD d) := by
  cases h with
  | non => exact .base .non
  | bl b => exact .base (.bl b)
  | int i => exact .base (.int i)
  | str x => exact .base (.str x)
  | lst h _ => exact .base (.lst h)
  | tup h _ => exact .base (.tup h)
  | dct h => exact .base (.dK h)
section
variable {K : PySem.W.Frag}
theorem kit_s : ∀ d : PyData, PySem.W.kitOne K (tyD d) (.type "str") = some (isSD d)
  | .none => kit_ty (show kitB "NoneType" "str" = some false by decide +kernel)
  | .bool _ => kit_ty (show kitB "bool" "str" = some false by decide +kernel)
  | .int _ => kit_ty (show kitB "int" "str" = some false by decide +kernel)
  | .str _ => kit_ty (show kitB "str" "str" = some true by decide +kernel)
  | .list _ => kit_ty (show kitB "list" "str" = some false by decide +kernel)
  | .tuple _ => kit_ty (show kitB "tuple" "str" = some false by decide +kernel)
  | .dict _ => kit_ty (show kitB "dict" "str" = some false by decide +kernel)
theorem kit_l : ∀ d : PyData, PySem.W.kitOne K (tyD d) (.type "list") = some (isLD d)
  | .none => kit_ty (show kitB "NoneType" "list" = some false by decide +kernel)
  | .bool _ => kit_ty (show kitB "bool" "list" = some false by decide +kernel)
  | .int _ => kit_ty (show kitB "int" "list" = some false by decide +kernel)
  | .str _ => kit_ty (show kitB "str" "list" = some false by decide +kernel)
  | .list _ => kit_ty (show kitB "list" "list" = some true by decide +kernel)
  | .tuple _ => kit_ty (show kitB "tuple" "list" = some false by decide +kernel)
  | .dict _ => kit_ty (show kitB "dict" "list" = some false by decide +kernel)
theorem kit_t : ∀ d : PyData, PySem.W.kitOne K (tyD d) (.type "tuple") = some (isTD d)
  | .none => kit_ty (show kitB "NoneType" "tuple" = some false by decide +kernel)
  | .bool _ => kit_ty (show kitB "bool" "tuple" = some false by decide +kernel)
  | .int _ => kit_ty (show kitB "int" "tuple" = some false by decide +kernel)
  | .str _ => kit_ty (show kitB "str" "tuple" = some false by decide +kernel)
  | .list _ => kit_ty (show kitB "list" "tuple" = some false by decide +kernel)
  | .tuple _ => kit_ty (show kitB "tuple" "tuple" = some true by decide +kernel)
  | .dict _ => kit_ty (show kitB "dict" "tuple" = some false by decide +kernel)
theorem kit_i : ∀ d : PyData, PySem.W.kitOne K (tyD d) (.type "int") = some (isID d)
  | .none => kit_ty (show kitB "NoneType" "int" = some false by decide +kernel)
  | .bool _ => kit_ty (show kitB "bool" "int" = some true by decide +kernel)
  | .int _ => kit_ty (show kitB "int" "int" = some true by decide +kernel)
  | .str _ => kit_ty (show kitB "str" "int" = some false by decide +kernel)
  | .list _ => kit_ty (show kitB "list" "int" = some false by decide +kernel)
  | .tuple _ => kit_ty (show kitB "tuple" "int" = some false by decide +kernel)
  | .dict _ => kit_ty (show kitB "dict" "int" = some false by decide +kernel)
theorem kit_b : ∀ d : PyData, PySem.W.kitOne K (tyD d) (.type "bool") = some (isBD d)
  | .none => kit_ty (show kitB "NoneType" "bool" = some false by decide +kernel)
  | .bool _ => kit_ty (show kitB "bool" "bool" = some true by decide +kernel)
  | .int _ => kit_ty (show kitB "int" "bool" = some false by decide +kernel)
  | .str _ => kit_ty (show kitB "str" "bool" = some false by decide +kernel)
  | .list _ => kit_ty (show kitB "list" "bool" = some false by decide +kernel)
  | .tuple _ => kit_ty (show kitB "tuple" "bool" = some false by decide +kernel)
  | .dict _ => kit_ty (show kitB "dict" "bool" = some false by decide +kernel)
end
section
variable {T : List (Addr × Str)} {H H' : Hp}
mutual
/-- what isn't a table stays -/
theorem Dv.keep (k : ∀ p o, H p = some o → (∀ ps, o ≠ .tbl ps) → H' p = some o) : ∀ (d : PyData) (v : V), Dv H v d → Dv H' v d
  | .none, _, h => by
    cases h
    exact .non
  | .bool b, _, h => by
    cases h
    exact .bl b
  | .int i, _, h => by
    cases h
    exact .int i
  | .str x, _, h => by
    cases h
    exact .str x
  | .list ds, _, h => by
    cases h with
    | lst h1 h2 => exact .lst (k _ _ h1 fun _ z => nomatch z) (DvAll.keep k ds _ h2)
  | .tuple ds, _, h => by
    cases h with
    | tup h1 h2 => exact .tup (k _ _ h1 fun _ z => nomatch z) (DvAll.keep k ds _ h2)
  | .dict _, _, h => by
    cases h with
    | dct h1 => exact .dct (k _ _ h1 fun _ z => nomatch z)
theorem DvAll.keep (k : ∀ p o, H p = some o → (∀ ps, o ≠ .tbl ps) → H' p = some o) : ∀ (ds : List PyData) (vs : List V), DvAll H vs ds → DvAll H' vs ds
  | [], _, h => by
    cases h
    exact .nil
  | d :: ds, _, h => by
    cases h with
    | cons h1 h2 => exact .cons (Dv.keep k d _ h1) (DvAll.keep k ds _ h2)
end
theorem Dv.ext {v : V} {d : PyData} (h : Dv H v d) (x : QB.Ext T H H') : Dv H' v d := Dv.keep (fun _ _ e n => x.get e n) d v h
theorem Dv.same {v : V} {d : PyData} (h : Dv H v d) (x : Same H H') : Dv H' v d := Dv.keep (fun _ _ e _ => x _ _ e) d v h
theorem DvAll.ext {vs : List V} {ds : List PyData} (h : DvAll H vs ds) (x : QB.Ext T H H') : DvAll H' vs ds := DvAll.keep (fun _ _ e n => x.get e n) ds vs h
theorem DvAll.same {vs : List V} {ds : List PyData} (h : DvAll H vs ds) (x : Same H H') : DvAll H' vs ds := DvAll.keep (fun _ _ e _ => x _ _ e) ds vs h
theorem DvAll.len : ∀ {vs : List V} {ds : List PyData}, DvAll H vs ds → ds.length = vs.length
  | _, _, .nil => rfl
  | _, _, .cons _ h => by rw [List.length_cons, List.length_cons, DvAll.len h]
theorem DvAll.app : ∀ {xs ys : List V} {ds es : List PyData}, DvAll H xs ds → DvAll H ys es → DvAll H (xs ++ ys) (ds ++ es)
  | _, _, _, _, .nil, h => h
  | _, _, _, _, .cons h1 h2, h => .cons h1 (DvAll.app h2 h)
theorem DvAll.get : ∀ {vs : List V} {ds : List PyData} {i : Nat} {v : V}, DvAll H vs ds → vs[i]? = some v → ∃ d, ds[i]? = some d ∧ Dv H v d
  | _, _, i, _, .nil, e => by simp at e
  | _, _, 0, _, .cons h _, e => by
    simp at e
    subst e
    exact ⟨_, rfl, h⟩
  | _, _, i + 1, _, .cons _ h, e => by
    rw [List.getElem?_cons_succ] at e
    obtain ⟨d, q, r⟩ := DvAll.get h e
    exact ⟨d, by rw [List.getElem?_cons_succ]; exact q, r⟩
theorem DvAll.take : ∀ {vs : List V} {ds : List PyData} (i : Nat), DvAll H vs ds → DvAll H (vs.take i) (ds.take i)
  | _, _, i, .nil => by
    rw [List.take_nil, List.take_nil]
    exact .nil
  | _, _, 0, .cons _ _ => .nil
  | _, _, i + 1, .cons h1 h2 => .cons h1 (DvAll.take i h2)
theorem DvAll.drop : ∀ {vs : List V} {ds : List PyData} (i : Nat), DvAll H vs ds → DvAll H (vs.drop i) (ds.drop i)
  | _, _, i, .nil => by
    rw [List.drop_nil, List.drop_nil]
    exact .nil
  | _, _, 0, .cons h1 h2 => .cons h1 h2
  | _, _, i + 1, .cons _ h2 => DvAll.drop i h2
theorem DvAll.rep {v : V} {d : PyData} (h : Dv H v d) : ∀ n : Nat, DvAll H (List.replicate n v) (List.replicate n d)
  | 0 => .nil
  | n + 1 => by
    rw [List.replicate_succ, List.replicate_succ]
    exact .cons h (DvAll.rep h n)
theorem DvAll.strs : ∀ wd : List Str, DvAll H (wd.map V.str) (wd.map PyData.str)
  | [] => .nil
  | t :: wd => .cons (.str t) (DvAll.strs wd)
theorem DvAll.set : ∀ {vs : List V} {ds : List PyData} (i : Nat) {v : V} {d : PyData}, DvAll H vs ds → Dv H v d → DvAll H (vs.set i v) (ds.set i d)
  | _, _, _, _, _, .nil, _ => .nil
  | _, _, 0, _, _, .cons _ h2, h => .cons h h2
  | _, _, i + 1, _, _, .cons h1 h2, h => .cons h1 (DvAll.set i h2 h)
theorem DvAll.mem : ∀ {vs : List V} {ds : List PyData} {v : V}, DvAll H vs ds → v ∈ vs → ∃ d ∈ ds, Dv H v d
  | _, _, _, .cons (d := d) h1 h2, hm => by
    rcases List.mem_cons.mp hm with rfl | hm
    · exact ⟨d, List.mem_cons_self, h1⟩
    · obtain ⟨e, he, q⟩ := DvAll.mem h2 hm
      exact ⟨e, List.mem_cons_of_mem _ he, q⟩
end
/-! repr -/
/-- data that repr writes without passing a line -/
structure Shows (d : PyData) : Prop where
  few : d.leavesShort 30 = true
  show_ : d.showable = true
  weight : d.weight ≤ 100000
  deep : d.depth ≤ 40
theorem Shows.size {d : PyData} (s : Shows d) : d.shown.length ≤ sizeLine := by
  have h := PyData.shown_le 30 (by decide) d s.few
  have w := s.weight
  rw [sizeLine_eq]
  omega
section
variable {X : Cx} {pins : List (Addr × Obj)} {σ : L2.St} {H : Hp} {s : Shared}
theorem notMods (I : Inv X pins σ H s) (hB : ∃ mm, X.base.Ns sysModules mm) {a : Addr} {o : HO} (h : H a = some o) : sysModules ≠ a := fun e => by
  obtain ⟨mm, u, es, ep, eu, _⟩ := hB
  have := (I.bs _ _ eu).2
  rw [e, h] at this
  cases this
mutual
theorem Dv.reads (I : Inv X pins σ H s) (hB : ∃ mm, X.base.Ns sysModules mm) : ∀ (d : PyData) (v : V) (u : Value), Dv H v d → RelV v u → ∃ as, Reads s.heap u d as ∧ sysModules ∉ as
  | .none, _, _, h, r => by
    cases h
    cases r
    exact ⟨_, .none, List.not_mem_nil⟩
  | .bool b, _, _, h, r => by
    cases h
    cases r
    exact ⟨_, .bool b, List.not_mem_nil⟩
  | .int i, _, _, h, r => by
    cases h
    obtain ⟨t, rfl⟩ := r
    exact ⟨_, .int i t, List.not_mem_nil⟩
  | .str x, _, _, h, r => by
    cases h
    obtain ⟨t, rfl⟩ := r
    exact ⟨_, .str x t, List.not_mem_nil⟩
  | .list ds, _, _, h, r => by
    cases h with
    | lst hs ha =>
      cases r
      obtain ⟨its, rv, ⟨o, n, ho, hc, _, hd⟩, _⟩ := I.list (SqL.of hs)
      obtain ⟨as, hr, ns⟩ := DvAll.reads I hB ds _ its ha rv
      exact ⟨_, .list ho hc hd hr, fun z => (List.mem_cons.mp z).elim (notMods I hB hs) ns⟩
  | .tuple ds, _, _, h, r => by
    cases h with
    | tup hs ha =>
      cases r
      obtain ⟨its, rv, ⟨o, ho, hc, n, hd⟩, _⟩ := I.tuple (SqT.of hs)
      obtain ⟨as, hr, ns⟩ := DvAll.reads I hB ds _ its ha rv
      exact ⟨_, .tuple ho hc hd hr, ns⟩
  | .dict _, _, _, h, r => by
    cases h with
    | @dct a hs =>
      cases r
      obtain ⟨_, hn, vs, kv, o, es, ep, ho, hx, hd, _, hp, _⟩ := dk_of I.hok hs
      cases kv
      have he : es.toList = [] := by
        cases hl : es.toList with
        | nil => rfl
        | cons x r =>
          rw [hl] at hp
          cases hp
      refine ⟨_, .dict (kvs := []) (as := []) (bs := []) ho hx.1 hd (by rw [he]; exact .nil) (by rw [he]; exact .nil), fun z => ?_⟩
      rcases List.mem_cons.mp z with z | z
      · exact notMods I hB hs z
      · exact List.not_mem_nil z
theorem DvAll.reads (I : Inv X pins σ H s) (hB : ∃ mm, X.base.Ns sysModules mm) : ∀ (ds : List PyData) (vs : List V) (us : List Value), DvAll H vs ds → Vals vs us → ∃ as, ReadsAll s.heap us ds as ∧ sysModules ∉ as
  | [], _, _, h, r => by
    cases h
    cases r
    exact ⟨_, .nil, List.not_mem_nil⟩
  | d :: ds, _, _, h, r => by
    cases h with
    | cons h1 h2 =>
      cases r with
      | cons r1 r2 =>
        obtain ⟨as, q1, n1⟩ := Dv.reads I hB d _ _ h1 r1
        obtain ⟨bs, q2, n2⟩ := DvAll.reads I hB ds _ _ h2 r2
        exact ⟨_, .cons q1 q2, fun z => (List.mem_append.mp z).elim n1 n2⟩
end
end
def rReprV : List V → Hp → VK → Prop := fun xs H Q => ∃ (v : V) (d : PyData) (a : Addr), xs = [v] ∧ v = .ref a ∧ Dv H v d ∧ Shows d ∧ Q (.str d.shown) H
section
variable {X : Cx}
theorem call_reprV (hg : X.A.guards = some []) (hu : X.A.units + 64 < cLine) (hB : ∃ mm, X.base.Ns sysModules mm) : CallR X (.builtin "repr") rReprV := by
  intro pins s σ H xs us Q I r ⟨v, d, a, ex, ev, hd, sh, q⟩
  subst ex ev
  obtain ⟨u, rfl, ru⟩ := vals1 r
  have hdp := sh.deep
  obtain ⟨as, rd, ns⟩ := Dv.reads I hB d _ u hd ru
  cases ru
  exact repr_of_reads' rd sh.show_ (fun _ => ns) hg (by omega) (fun _ _ z => z) (fun h' t tk hk => ⟨.str d.shown, H, I.kept (t' := tk) hk, ⟨t, rfl⟩, q⟩) sh.size
end
/-! a class made in a suite that may raise -/
section
variable {X : Cx} {CX : CXT} {k : Nat} {f C : Addr} {fd : FuncData} {ps : List Str} {sp : Sp} {dvs : List V} {ds : List Value} {E : L2.St → XK} {x : Str} {p pos : Pos} {e : Expr} {es : List Expr} {t : TA}
def tMakeS (C : Addr) (sp : Sp) (dvs : List V) (E : L2.St → XK) (t : TA) : TE := fun σ H Q => t σ H fun vs G => ∀ o dx, G o = none → G dx = none → dx ≠ o →
  sp (.ref o :: (vs ++ dvs)) (upd (upd G dx (.own o)) o (.ins C dx [])) (fun r G2 => r = .non ∧ Q (.ref o) G2) (E σ)
theorem mk_run {pins : List (Addr × Obj)} {σ : L2.St} {H : Hp} {s : Shared} {Q : VK} {us : List Value} {vs : List V} (cm : Mk X.K C f) (fn : FnOk X.prog X.w X.K X.mg X.base CX k f fd ps sp) (room : Room (k + 1) X.A) (bi : Binds X.K fd ps ds) (dv : Vals dvs ds)
    (px : PassesAt CX X σ (E σ)) (inv : Inv X pins σ H s) (rel : Vals vs us)
    (go : ∀ o dx, H o = none → H dx = none → dx ≠ o → sp (.ref o :: (vs ++ dvs)) (upd (upd H dx (.own o)) o (.ins C dx [])) (fun r G2 => r = .non ∧ Q (.ref o) G2) (E σ)) :
    wpAny (model X.prog X.w) X.A (call (.ref C) us) (EP X pins σ Q) X.xe s := by
  have new1 : H (s.heap.objs.size + 1) = none := inv.hok.fresh (by omega)
  have new0 : H s.heap.objs.size = none := inv.hok.fresh (by omega)
  have said := go _ _ new1 new0 (show s.heap.objs.size ≠ s.heap.objs.size + 1 by omega)
  have inv2 := Inv.made (C := C) inv
  have rel2 : Vals (V.ref (s.heap.objs.size + 1) :: (vs ++ dvs)) (Value.ref (s.heap.objs.size + 1) :: (us ++ ds)) := .cons rfl (rel.append dv)
  have many : (Value.ref (s.heap.objs.size + 1) :: us ++ ds).length = ps.length := by
    have := rel2.length
    rw [fn.len _ _ _ _ said] at this
    exact this.symm
  have ran := fn.run _ X.stack _ _ ⟨Value.ref (s.heap.objs.size + 1) :: us, []⟩ (Value.ref (s.heap.objs.size + 1) :: (us ++ ds)) _ _ (E σ) (room.make C us []) (inv2.env0.make C us []) (bi _ (Value.ref (s.heap.objs.size + 1) :: us) inv2.kIn many) rel2 said
  refine wpAny_call (make_map (f := f) inv.kIn cm.makes cm.init (beq_iff_eq.mp cm.fn) (codeAny_mono ran fun out s' got => ?_))
  cases out with
  | error err => exact px pins _ _ err s' inv2 got
  | ok way =>
    cases way with
    | ret u =>
      have done := inv2.after got
      obtain ⟨v, G, inv3, rv, ev, q⟩ := done
      subst ev
      exact ⟨rv, ⟨V.ref (s.heap.objs.size + 1), G, inv3, rfl, q⟩⟩
    | _ => exact False.elim got
theorem pe_makeS (cm : Mk X.K C f) (fn : FnOk X.prog X.w X.K X.mg X.base CX k f fd ps sp) (room : Room (k + 1) X.A) (gl : Gl X x) (mgx : X.mg x = some (.ref C)) (bi : Binds X.K fd ps ds) (dv : Vals dvs ds) (px : ∀ σ, PassesAt CX X σ (E σ))
    (args : PA X (e :: es) t) (nd : (x == ("__debug__" : Str)) = false := by decide) (st : starEach (e :: es) X.env = (false, eval e X.env) :: starEach es X.env := by rfl) (pl : (backTo pos (starEach es X.env)).any (·.1) = false := by rfl) :
    PE X (.Call (.Name x p) (e :: es) [] pos) (tMakeS C sp dvs E t) := by
  refine ⟨fun pins s σ H Q inv said => wpAny_Call_Name_kw (ld_glob inv gl mgx ?_ nd)⟩
  have := args.run pos pins s σ H _ inv said
  exact PySem.W.callWith_K (h₀ := X.base) inv.ok.mod.kin cm.kp (thn this fun us s1 ⟨vs, G, inv1, rel, q⟩ => ⟨inv1.kIn, mk_run cm fn room bi dv (px σ) inv1 rel q⟩) st pl
end
/-! a list beside an empty one -/
def rNil (neg : Bool) : R2 := fun x y H Q => ∃ (p q : Addr) (xs : List V), x = .ref p ∧ y = .ref q ∧ H p = some (.lst xs) ∧ H q = some (.lst []) ∧ Q (.bl (if neg then !xs.isEmpty else xs.isEmpty)) H
section
variable {X : Cx}
theorem op_eqNil (hu : X.A.units + 64 < cLine) : OpR X (compareOp .Eq) (rNil false) := by
  intro pins s σ H x y v u Q I rx ry ⟨p, q, xs, ex, ey, h1, h2, k⟩
  subst ex ey
  cases rx
  cases ry
  obtain ⟨its, rv, pl, _⟩ := I.list (SqL.of h1)
  obtain ⟨its2, rv2, pl2, _⟩ := I.list (SqL.of h2)
  cases rv2
  cases rv with
  | nil => exact SeqAt.RcAt.lists pl.isList pl2.isList rfl (by omega) (e := fun _ => true) (fun j h => absurd h (Nat.not_lt_zero _)) _ _ _ _ ⟨.bl true, H, I, rfl, k⟩
  | cons _ _ => exact SeqAt.RcAt.lists_lengths pl.isList pl2.isList (by simp) (by omega) _ _ _ _ ⟨.bl false, H, I, rfl, k⟩
theorem op_neNil (hu : X.A.units + 64 < cLine) : OpR X (compareOp .NotEq) (rNil true) := by
  intro pins s σ H x y v u Q I rx ry ⟨p, q, xs, ex, ey, h1, h2, k⟩
  subst ex ey
  cases rx
  cases ry
  obtain ⟨its, rv, pl, _⟩ := I.list (SqL.of h1)
  obtain ⟨its2, rv2, pl2, _⟩ := I.list (SqL.of h2)
  cases rv2
  cases rv with
  | nil => exact SeqAt.RcNeAt.lists pl.isList pl2.isList rfl (by omega) (e := fun _ => true) (fun j h => absurd h (Nat.not_lt_zero _)) _ _ _ _ ⟨.bl false, H, I, rfl, k⟩
  | cons _ _ => exact SeqAt.RcNeAt.lists_lengths pl.isList pl2.isList (by simp) (by omega) _ _ _ _ ⟨.bl true, H, I, rfl, k⟩
end
/-- 'a' * 9 -/
def nine : Str := ⟨(List.replicate (9 : Int).toNat (Str.ofString "a").cps).foldl (· ++ ·) #[]⟩
theorem op_mul9 {X : Cx} : OpR X (binaryOp .Mult) (fun x y H Q => x = .str (Str.ofString "a") ∧ y = .int 9 ∧ Q (.str nine) H) := by
  intro pins s σ H x y v u Q I rx ry ⟨ex, ey, q⟩
  subst ex ey
  obtain ⟨t, rfl⟩ := (show ∃ t, v = Value.str (Str.ofString "a") t from rx)
  obtain ⟨t', rfl⟩ := (show ∃ t, u = Value.int 9 t from ry)
  refine PySem.P.mul_str (by decide) (fun _ _ => by decide +kernel) (fun _ _ => by decide +kernel) ?_
  rw [if_neg (by decide), if_neg (by decide +kernel)]
  exact ⟨by decide +kernel, ⟨.str nine, H, I.tok _, ⟨_, rfl⟩, q⟩⟩
theorem bo_repr : bootBuiltins (Str.ofString "repr") = some (.builtin "repr") := by decide +kernel
end QV
end

section
set_option Elab.async false
set_option linter.all false
set_option maxRecDepth 100000
set_option maxHeartbeats 2000000
/-! Qtop2: the law called from the top, where nothing is being written by repr and the modules stand in their place. -/
namespace QT
open PySem PySem.Spec PyProof.Rows L2 LamX
/-- the law's promise, asked of the caller's surroundings alone -/
def RunG (P : Program) (w : World) (K : PySem.W.Frag) (mg : Str → Option Value) (base : Heap) (CX : CXT) (fa : Addr) (fd : FuncData) (x : Str) (sp : Sp) : Prop :=
  ∀ (s : Shared) (H : Hp) (u : Value) (v : V) (Q : VK) (E : XK), Env0 P w K mg base callerA [] s H → BindsTo s fd ⟨[u], []⟩ [(x, u)] → RelV v u → sp [v] H Q E → codeAny (model P w) callerA (.call (.ref fa) ⟨[u], []⟩) (CR CX [] P w H s Q E) s
section
variable {P : Program} {w : World} {K : PySem.W.Frag} {mg mb : Str → Option Value} {CX : CXT} {fa a : Addr} {cs : List (Addr × Addr)} {fd : FuncData} {x : Str} {sp : Sp} {s₁ : Shared} {vs : List Value} {ns : List Int}
abbrev tabO : Obj := { cls := .none, data := .fields #[] }
abbrev lstO (vs : List Value) : Obj := { cls := .type "list", data := .seq vs.toArray }
open Classical in
/-- what is tracked at the start: the script, where it isn't written by the top, and the tables -/
noncomputable def H0 (K : PySem.W.Frag) (cs : List (Addr × Addr)) (vs : List Value) (ns : List Int) (a : Addr) : Hp := fun b =>
  if b = a ∧ K.lookup a = none then some (.frz (lstO vs) (.lst (ns.map V.int))) else if b ∈ cs.map (·.2) then some (.tbl #[]) else none
theorem h0_or {b : Addr} : (b = a ∧ K.lookup a = none ∧ H0 K cs vs ns a b = some (.frz (lstO vs) (.lst (ns.map V.int)))) ∨ (b ∈ cs.map (·.2) ∧ H0 K cs vs ns a b = some (.tbl #[])) ∨ H0 K cs vs ns a b = none := by
  unfold H0
  by_cases h1 : b = a ∧ K.lookup a = none
  · exact .inl ⟨h1.1, h1.2, if_pos h1⟩
  · rw [if_neg h1]
    by_cases h2 : b ∈ cs.map (·.2)
    · exact .inr (.inl ⟨h2, if_pos h2⟩)
    · exact .inr (.inr (if_neg h2))
theorem law_callG (KX : K.In s₁.heap) (hns : s₁.heap.Ns mainGlobals mg) (hb : s₁.heap.Ns builtinsNs mb) (hbb : ∀ x : Str, x ≠ "__name__" → mb x = bootBuiltins x) (hlim : s₁.heap.NoLimit) (hg : s₁.gens = #[])
    (hT : ∀ p ∈ cs, s₁.heap.get? p.2 = some tabO) (nT : ∀ p ∈ cs, K.lookup p.2 = none) (C : ∀ p ∈ cs, PySem.W.CodeHd s₁.heap p.1 p.2)
    (hbm : ∃ (bm : Addr) (ob : Obj), mg "__builtins__" = some (.ref bm) ∧ bm ≠ builtinsNs ∧ s₁.heap.get? bm = some ob ∧ ob.cls = .type "module" ∧ ob.dict = some builtinsNs ∧ ob.data = .plain)
    (ha : s₁.heap.get? a = some (lstO vs)) (hi : IntsAre vs ns) (hl : ns.length ≤ sizeLine)
    (hmm : ∃ mm, s₁.heap.Ns sysModules mm) (F : ∀ base : Heap, K.In base → base.Ns mainGlobals mg → (∃ mm, base.Ns sysModules mm) → (∀ p ∈ cs, TabB base mg p.1 p.2) → RunG P w K mg base CX fa fd x sp) (hbind : ∀ (s : Shared) (u : Value), BindsTo s fd ⟨[u], []⟩ [(x, u)])
    (hsp : ∀ H : Hp, (∀ p ∈ cs, H p.2 = some (.tbl #[])) → SqL K H a (ns.map V.int) → sp [.ref a] H (fun v _ => v = .bl true) fun _ _ _ => False)
    (hCX : ∀ H e s', CX [] H s₁ (fun _ _ _ => False) e s' → False) :
    codeAny (model P w) callerA (.call (.ref fa) ⟨[.ref a], []⟩) (fun r s' => r = .ok (.ret (.bool true)) ∧ OldK s₁.heap s'.heap ∧ s'.os = s₁.os ∧ AllBare s'.gens) s₁ := by
  have rv := vals_ints hi
  have hvl : vs.length = ns.length := hi.length
  have tabs : ∀ {b : Addr}, b ∈ cs.map (·.2) → ∃ p ∈ cs, p.2 = b ∧ s₁.heap.get? b = some tabO := fun hb => by
    obtain ⟨p, hp, rfl⟩ := List.mem_map.mp hb
    exact ⟨p, hp, rfl, hT p hp⟩
  have aT : a ∉ cs.map (·.2) := fun hm => by
    obtain ⟨_, _, _, e⟩ := tabs hm
    rw [ha] at e
    have e2 := congrArg Obj.data (Option.some.inj e)
    cases e2
  have hTab : ∀ p ∈ cs, H0 K cs vs ns a p.2 = some (.tbl #[]) := fun p hp => by
    have hm : p.2 ∈ cs.map (·.2) := List.mem_map.mpr ⟨p, hp, rfl⟩
    rcases h0_or (K := K) (cs := cs) (vs := vs) (ns := ns) (a := a) (b := p.2) with ⟨e, _⟩ | ⟨_, h⟩ | h
    · exact absurd (e ▸ hm) aT
    · exact h
    · unfold H0 at h
      rw [if_neg (fun q : p.2 = a ∧ K.lookup a = none => aT (q.1 ▸ hm)), if_pos hm] at h
      cases h
  have hSq : SqL K (H0 K cs vs ns a) a (ns.map V.int) := by
    cases hk : K.lookup a with
    | none => exact .inl (.inr ⟨lstO vs, by unfold H0; rw [if_pos ⟨rfl, hk⟩]⟩)
    | some o =>
      have e := KX a o hk
      rw [ha] at e
      cases e
      exact .inr ⟨_, vs.toArray, _, hk, rfl, rfl, rfl, by rw [List.size_toArray, hvl]; exact hl, by simpa using rv⟩
  have hOk : HOk P w (H0 K cs vs ns a) s₁.heap := fun b u hu => by
    rcases h0_or (K := K) (cs := cs) (vs := vs) (ns := ns) (a := a) (b := b) with ⟨rfl, _, h⟩ | ⟨hm, h⟩ | h
    · rw [h] at hu
      cases hu
      exact ⟨ha, by rw [List.length_map]; exact hl, vs, _, rv, ha⟩
    · rw [h] at hu
      cases hu
      obtain ⟨_, _, _, e⟩ := tabs hm
      exact e
    · rw [h] at hu
      cases hu
  -- what is neither the script nor a table stays in sight
  have free : ∀ {b : Addr} {o : Obj}, s₁.heap.get? b = some o → (∀ k m, o.data ≠ .seq k m) → o.data ≠ .fields #[] → H0 K cs vs ns a b = none := fun {b o} e h1 h2 => by
    rcases h0_or (K := K) (cs := cs) (vs := vs) (ns := ns) (a := a) (b := b) with ⟨rfl, _⟩ | ⟨hm, _⟩ | h
    · rw [ha] at e
      cases e
      exact absurd rfl (h1 _ _)
    · obtain ⟨_, _, _, q⟩ := tabs hm
      rw [q] at e
      cases e
      exact absurd rfl h2
    · exact h
  generalize hH : H0 K cs vs ns a = H at hTab hSq hOk free
  have sight : ∀ {b : Addr} {o : Obj}, s₁.heap.get? b = some o → H b = none → (hidT s₁.heap H).get? b = some o := fun e n => hidT_get e n
  have names : ∀ {b : Addr} {m : Str → Option Value}, s₁.heap.Ns b m → (hidT s₁.heap H).Ns b m := fun {b m} ⟨o, es, ep, e, d, r⟩ => ⟨o, es, ep, sight e (free e (fun k m z => by rw [d] at z; cases z) (fun z => by rw [d] at z; cases z)), d, r⟩
  have kept : K.In (hidT s₁.heap H) := fun b o e => sight (KX b o e) (by
    rcases h0_or (K := K) (cs := cs) (vs := vs) (ns := ns) (a := a) (b := b) with ⟨rfl, n, _⟩ | ⟨hm, _⟩ | h
    · rw [e] at n
      cases n
    · obtain ⟨p, hp, rfl, _⟩ := tabs hm
      rw [nT p hp] at e
      cases e
    · rw [← hH]
      exact h)
  have tabB : ∀ p ∈ cs, TabB (hidT s₁.heap H) mg p.1 p.2 := fun p hp => by
    have here := hT p hp
    refine ⟨?_, ?_, fun z => ?_⟩
    · obtain ⟨o, us, file, tf, flags, tg, inF, text, tt, e, q1, q2, q3, q⟩ := C p hp
      refine ⟨o, us, file, tf, flags, tg, inF, text, tt, sight e (free e (fun k m z => ?_) fun z => ?_), q1, q2, q3, q⟩
      · rw [q2] at z
        cases z
      · rw [q2] at z
        cases z
        simp at q3
    · obtain ⟨bm, ob, b1, b2, b3, b4, b5, b6⟩ := hbm
      refine ⟨bm, ob, b1, b2, fun z => ?_, fun z => ?_, sight b3 (free b3 (fun k m z => ?_) fun z => ?_), b4, b5, b6⟩
      · obtain ⟨o, es, ep, e, hd, _⟩ := hns
        rw [← z, b3] at e
        cases e
        rw [b6] at hd
        cases hd
      · rw [z, here] at b3
        cases b3
        cases b6
      · rw [b6] at z
        cases z
      · rw [b6] at z
        cases z
    · obtain ⟨o, es, ep, e, hd, _⟩ := hns
      rw [z, here] at e
      cases e
      cases hd
  have modOk : L2.Mod K mg (hidT s₁.heap H) := ⟨kept, names hns, ⟨mb, names hb, hbb⟩, let ⟨mc, h1, h2⟩ := hlim; ⟨mc, names h1, h2⟩⟩
  have env0 : Env0 P w K mg (hidT s₁.heap H) callerA [] s₁ H := ⟨rfl, modOk, fun b o e => of_hidT e, Nat.le_of_eq (hidT_size _ _), trivial, fun b hb => (nomatch hb), hOk, .of_eq hg⟩
  refine codeAny_mono (F _ kept (names hns) (hmm.imp fun _ z => names z) tabB s₁ H (.ref a) (.ref a) _ _ env0 (hbind s₁ (.ref a)) rfl (hsp H hTab hSq)) fun r s' hr => ?_
  cases r with
  | error e => exact (hCX H e s' hr).elim
  | ok fl =>
    cases fl with
    | next => exact hr.elim
    | brk => exact hr.elim
    | cont => exact hr.elim
    | ret u =>
      obtain ⟨v, G, os, bare, un, okG, ru, q⟩ := hr
      obtain rfl : v = .bl true := q
      obtain rfl : u = Value.bool true := ru
      have same : ∀ {b : Addr} {o : Obj}, b ∉ cs.map (·.2) → s₁.heap.get? b = some o → s'.heap.get? b = some o := fun {b o} nb e => by
        rcases h0_or (K := K) (cs := cs) (vs := vs) (ns := ns) (a := a) (b := b) with ⟨_, _, h⟩ | ⟨hm, _⟩ | h
        · rw [hH] at h
          obtain ⟨e1, _⟩ := hOk b _ h
          obtain ⟨e2, _⟩ := okG b _ (un.frzs b _ _ h)
          rw [e1] at e
          cases e
          exact e2
        · exact absurd hm nb
        · rw [hH] at h
          exact un.keep b o e h (fun z => nomatch z) (fun z => nomatch z)
      refine ⟨rfl, ⟨fun b o e => ?_, fun b o e => ?_⟩, os, bare⟩
      · by_cases hb : b ∈ cs.map (·.2)
        · obtain ⟨p, hp, rfl, q⟩ := tabs hb
          obtain ⟨more, z⟩ := un.tbls p.2 #[] (hTab p hp)
          rw [q] at e
          cases e
          exact .inr (.inl ⟨((C p hp).tab q).isCodeTable, rfl, #[], more, rfl, okG p.2 _ z⟩)
        · exact .inl (same hb e)
      · by_cases hb : b ∈ cs.map (·.2)
        · obtain ⟨p, hp, rfl, q⟩ := tabs hb
          obtain ⟨more, z⟩ := un.tbls p.2 #[] (hTab p hp)
          exact ⟨_, okG p.2 _ z⟩
        · exact ⟨o, same hb e⟩
end
/-- what is known of the law's promise at the head's heap -/
def LawG (l : PySem.W.OpenLaw) (w : World) (K : PySem.W.Frag) (CX : CXT) (n : Nat) (x : Str) (mg : Str → Option Value) (fa : Addr) (h : Heap) : Prop :=
  ∃ (fd : FuncData) (cs : List (Addr × Addr)) (sp : Sp), (∀ p ∈ cs, h.get? p.2 = some tabO) ∧ (∀ p ∈ cs, K.lookup p.2 = none) ∧ (∀ p ∈ cs, PySem.W.CodeHd h p.1 p.2) ∧ (∀ (s : Shared) (u : Value), BindsTo s fd ⟨[u], []⟩ [(x, u)]) ∧
    (∀ (H : Hp) (a : Addr) (ns : List Int), ns.length ≤ n → (∀ p ∈ cs, H p.2 = some (.tbl #[])) → SqL K H a (ns.map V.int) → sp [.ref a] H (fun v _ => v = .bl true) fun _ _ _ => False) ∧
    ∀ base : Heap, K.In base → base.Ns mainGlobals mg → (∃ mm, base.Ns sysModules mm) → (∀ p ∈ cs, TabB base mg p.1 p.2) → RunG l.prog w K mg base CX fa fd x sp
theorem walk_ofG {l : PySem.W.OpenLaw} {n : Nat} {q : Program} {loose : List Str} {XP : (Str → Option Value) → Heap → Prop} {YP : World → Heap → Prop} {d : DefRec} {CX : World → CXT} {x : Str}
    (hn : l.most = some n) (hn2 : n ≤ sizeLine) (hdf : d.params.defaults = []) (hi : importsNone q = true)
    (F : ∀ (w : World) (mg : Str → Option Value) (fa : Addr) (h : Heap), YP w h → h.Ns mainGlobals mg → mg d.name = some (.ref fa) → ∃ K : PySem.W.Frag, K.In h ∧ LawG l w K (CX w) n x mg fa h)
    (hCX : ∀ (w : World) (H : Hp) (s : Shared) (e : Value) (s' : Shared), CX w [] H s (fun _ _ _ => False) e s' → False) :
    PySem.W.WalkO q loose XP YP l.row.toRowW d [] (fun f vs => PySem.call f vs) := by
  refine Att.attach_callB hn hdf fun w s₀ s₁ mg mb fa o pm cd doc a vs ns G Y ho hd hcd hmg hobj hints hlen _ hg => ?_
  obtain ⟨K, KX, fd, cs, sp, h1, h2, h3, h4, h5, h6⟩ := F w mg fa _ Y G.T.g hmg
  exact law_callG KX G.T.g G.T.b G.T.builtins G.T.nolimit hg h1 h2 h3 G.T.bmain hobj hints (Nat.le_trans hlen hn2) ((G.T.seer hi).mods.imp fun _ z => z.1) h6 h4 (fun H a1 a2 => h5 H a ns hlen a1 a2) fun H e s' => hCX w H s₁ e s'
end QT
namespace QT
open PySem PySem.Spec PyProof.Rows L2 LamX
theorem guards0 {env : Env} : (callerA.deeper env).guards = some [] := by
  first
    | rfl
    | simp [callerA, Around.deeper]
section
variable {P : Program} {w : World} {K : PySem.W.Frag} {mg : Str → Option Value} {base : Heap}
/-- the promise out of the body, in the caller's surroundings -/
theorem run_ofG {x qual y : Str} {st : Stmt} {f : Addr} {fd : FuncData} {N : List Str} {k : Nat} {sp : Sp} (F : Fun K x qual st f fd) (S : FnScope N [y] (defScope st)) (hr : Room (k + 1) callerA) (len : ∀ vs H Q E, sp vs H Q E → vs.length = 1)
    (hbody : ∀ (cdv : Value) (s : Shared) (H : Hp) (vs : List V) (Q : VK) (E : XK), Room k (callerA.deeper (envOfC qual (defScope st) s.heap.objs.size f cdv)) → sp vs H Q E →
      ∃ t, PSs (cxOf CX0 P w K mg base N qual (defScope st) f cdv callerA [] s H E).nox (defBody st) t ∧ t { nx := fun _ H' => Q .non H', rt := Q } (start N vs) H) : RunG P w K mg base CX0 f fd y sp := by
  obtain ⟨oc, od, kV, doc, pm, an, cdv, ct, osl, rfl, lk, hcd⟩ := F.ex
  intro s H u v Q E e0 hb r hsp
  have stay : ∀ b o, base.get? b = some o → s.heap.get? b = some o := fun b o e => (e0.bs b o e).1
  have kin : K.In s.heap := e0.mod.kin.keeps stay
  have where_ : ∀ z ∈ [(y, u)], (defScope st).names.lookup z.1 = some .local ∨ ((defScope st).names.lookup z.1 = some .cell ∧ ((cellsFrom (s.heap.objs.size + 1) (defScope st).names []).lookup z.1).isSome = true) := fun z hz => by
    have e : z = (y, u) := by simpa using hz
    rcases S.par z.1 (by rw [e]; exact List.mem_singleton.mpr rfl) with q | q
    · exact .inl q
    · exact .inr ⟨q, PySem.W.cellsFrom_some _ _ _ (.inl q)⟩
  refine codeAny_call_function hr.depth (kin _ _ lk) rfl S.co S.gen rfl (PySem.W.codeRec_of kin hcd) (hb _ _ _ _ (wpAny_newFunctionEnv_cells S.kind where_ fun env he s1 q1 => ?_))
  subst he
  refine ⟨(e0.mod.nolimit.keeps stay).keeps q1.toInCall.keep, codeAny_func ?_⟩
  obtain ⟨t, ht, hq⟩ := hbody cdv s H [v] Q E (hr.deeper _) hsp
  have I : Inv (cxOf CX0 P w K mg base N qual (defScope st) f cdv callerA [] s H E) [] (start N [v]) H s1 := inv_start (ps := [y]) (us := [u]) S hr.hd e0 rfl (.cons r .nil) q1
  refine wpAny_mono (ht.nox.run [] s1 (start N [v]) H _ I hq) (fun fl s' hs => ?_) fun _ _ hs => hs
  cases fl with
  | ret z =>
    obtain ⟨v', τ, G, J, rv, q⟩ := hs
    exact ⟨v', G, J.os, J.bare, J.base, J.hok, rv, q⟩
  | next =>
    obtain ⟨τ, G, J, q⟩ := hs
    exact ⟨.non, G, J.os, J.bare, J.base, J.hok, rfl, q⟩
  | brk =>
    obtain ⟨τ, G, J, q⟩ := hs
    exact q.elim
  | cont =>
    obtain ⟨τ, G, J, q⟩ := hs
    exact q.elim
end
end QT
end

section
set_option Elab.async false
set_option linter.all false
set_option maxRecDepth 100000
set_option maxHeartbeats 4000000
/-! Qkx: an own exception class called with one keyword. -/
namespace QK
open PySem PySem.HandSPX
open Builtin Builtin.ObjectAttr
section
variable {M : Model} {A : Around} {E : Value → Shared → Prop} {h : Heap} {g : Array GenState} {d : Drawn} {t : Nat} {os : OsState}
variable {nm q : Str} {C N : Addr} {bs bm bmB : List Value} {hdct : Bool} {sn : List Str} {sub : List Value} {ab : Bool} {col : Option Bool} {dd : Option Addr} {k0 k1 k2 k3 k5 : Option Value} {B newId initId : String}
theorem check_new_kw (F : ExcBaseFacts B newId initId bmB) (hT : ∀ X : String, bm.contains (.type X) = bmB.contains (.type X)) {rest : List Value} {kx : Str} {kv : Value} {Q : Unit → Shared → Prop}
    (hC : h.get? C = some (excClassObj nm q C N bs bm hdct sn sub ab col dd k0 k1 k2 k3 k5 newId)) (hq : Q () ⟨h, g, d, t, os⟩) : wpAny M A (checkBuiltinCall newId ⟨.ref C :: rest, [(kx, kv)]⟩) Q E ⟨h, g, d, t, os⟩ := by
  have hcont : (Value.ref C :: bm).contains (.type B) = true := by rw [List.contains_cons, hT, F.hasB, Bool.or_true]
  have hstar := F.noStar
  simp only [checkBuiltinCall, F.newKind, F.newSplit, F.newRow]
  repeat (first | refine wpAny_loadPart_at hC ?_ | (refine wpAny_isSubtype_exc hC ?_; rw [hcont]) | refine wpAny_staticBase_exc hC ?_ | refine wpAny_madeBy_exc hC ?_ | simp only [bne_self_eq_false, Bool.false_eq_true, if_false] | wp_step)
  exact hq
end

section
variable {prog : Program} {w : World} {A : Around} {E : Value → Shared → Prop} {R : Result → Shared → Prop} {h : Heap} {g : Array GenState} {d : Drawn} {t : Nat} {os : OsState}
variable {nm q : Str} {C N : Addr} {bs bm bmB : List Value} {hdct : Bool} {sn : List Str} {sub : List Value} {ab : Bool} {col : Option Bool} {dd : Option Addr} {k0 k1 k2 k3 k5 : Option Value} {B newId initId : String}
theorem new_kw (F : ExcBaseFacts B newId initId bmB) (hT : ∀ X : String, bm.contains (.type X) = bmB.contains (.type X)) {rest : List Value} {kx : Str} {kv : Value}
    (hC : h.get? C = some (excClassObj nm q C N bs bm hdct sn sub ab col dd k0 k1 k2 k3 k5 newId))
    (hq : R (.ok (.ret (.ref (h.objs.size + 1)))) ⟨(h.push { cls := .type "tuple", data := .seq rest.toArray }).push
      { cls := .ref C, data := .fields #[.ref h.objs.size, .none, .none, .none, .bool false, .none] }, g, d, t, os⟩) (hrest : rest.length ≤ sizeLine) :
    codeAny (model prog w) A (.builtin newId ⟨.ref C :: rest, [(kx, kv)]⟩) R ⟨h, g, d, t, os⟩ := by
  have hends := F.ends
  have hcB : (Value.ref C :: bm).contains (.type B) = true := by rw [List.contains_cons, hT, F.hasB, Bool.or_true]
  have hcA : (Value.ref C :: bm).contains (.type "AttributeError") = false := by rw [List.contains_cons, hT, F.noAttr]; rfl
  have hcN : (Value.ref C :: bm).contains (.type "NameError") = false := by rw [List.contains_cons, hT, F.noName]; rfl
  refine codeAny_builtinAt F.entry ?_
  unfold Builtin.«BaseException.__new__»
  refine wpAt_bind ?_
  show wpAt _ _ _ (stack >>= _) _ _ _
  refine wpAt_bind (wpAt_stack fun p below => wpAt_of_wpAny ?_)
  wp_walk
  refine wpAt_of_wpAny ?_
  rw [F.owner]
  repeat (first | with_reducible refine wpAny_madeHere_exc F.canon hC ?_ | with_reducible refine wpAny_loadPart_at hC ?_ | (with_reducible refine wpAny_isSubtype_exc hC ?_; first | rw [hcB] | rw [hcA] | rw [hcN]) | wp_step)
  show R _ _
  rw [Heap.size_push]
  exact hq
theorem type_call_kw (F : ExcBaseFacts B newId initId bmB) (hT : ∀ X : String, bm.contains (.type X) = bmB.contains (.type X)) {rest : List Value} {kx : Str} {kv : Value} {fI : Addr} {Q : Fin → Shared → Prop}
    (hC : h.get? C = some (excClassObj nm q C N bs bm hdct sn sub ab col dd k0 k1 k2 k3 k5 newId))
    (hi : W.Looks (model prog w) h (typeLookup (.ref C) "__init__") (some (.ref fI))) (hb : ∀ self, W.Looks (model prog w) h (bindSpecial (.ref fI) self) (.ref fI, [self])) (hrest : rest.length ≤ sizeLine)
    (hq : codeAny (model prog w) A (.call (.ref fI) ⟨.ref (h.objs.size + 1) :: rest, [(kx, kv)]⟩)
      (fun r s' => match r with | .ok (.ret v) => v = .none ∧ Q (.done (.ret (.ref (h.objs.size + 1)))) s' | .ok _ => False | .error e => E e s')
      ⟨(h.push (W.kdv_tup rest)).push (excO C h.objs.size), g, d, t, os⟩) :
    wpAny (model prog w) A (Builtin.«type.__call__» ⟨.ref C :: rest, [(kx, kv)]⟩) Q E ⟨h, g, d, t, os⟩ := by
  repeat (first | with_reducible refine wpAny_loadPart_at hC ?_ | with_reducible refine wpAny_madeBy_exc hC ?_ | wp_step)
  refine codeAny_call_builtin_code (Code.quiet_builtin _ F.quiet) (check_new_kw F hT hC ?_)
  refine new_kw F hT hC ?_ hrest
  show wpAny _ _ _ _ _ _
  have k : ∀ b o, h.get? b = some o → ((h.push (W.kdv_tup rest)).push (excO C h.objs.size)).get? b = some o := fun b o e => Heap.get?_push_of_some _ (Heap.get?_push_of_some _ e)
  have hC₁ := k _ _ hC
  have hget : ((h.push (W.kdv_tup rest)).push (excO C h.objs.size)).get? (h.objs.size + 1) = some (excO C h.objs.size) := by heap_get
  have hcC : (Value.ref C :: bm).contains (.ref C) = true := by simp
  have i1 := hi.keeps k
  have b1 := (hb (.ref (h.objs.size + 1))).keeps k
  unfold isInstance
  repeat (first | with_reducible refine wpAny_loadPart_at hget ?_ | (with_reducible refine wpAny_isSubtype_exc hC₁ ?_; rw [hcC]) | wp_step)
  show wpAny _ _ (typeLookup (.ref C) _) _ _ _
  refine i1.at ?_
  refine wpAny_holding (wpAny_bind (b1.at ?_))
  refine wpAny_bind (wpAny_call (codeAny_mono hq fun r s' z => ?_))
  rcases r with e | (v | _ | _ | _) <;> first | exact z | exact z.elim | skip
  obtain ⟨rfl, z⟩ := z
  first
    | exact wpAny_pure (wpAny_pure z)
    | (wp_walk; exact z)
theorem call_kw (F : ExcBaseFacts B newId initId bmB) (hT : ∀ X : String, bm.contains (.type X) = bmB.contains (.type X)) {rest : List Value} {kx : Str} {kv : Value} {fI : Addr}
    (hC : h.get? C = some (excClassObj nm q C N bs bm hdct sn sub ab col dd k0 k1 k2 k3 k5 newId))
    (hi : W.Looks (model prog w) h (typeLookup (.ref C) "__init__") (some (.ref fI))) (hb : ∀ self, W.Looks (model prog w) h (bindSpecial (.ref fI) self) (.ref fI, [self])) (hrest : rest.length ≤ sizeLine)
    (hq : codeAny (model prog w) (A.under (.builtin "type.__call__" ⟨.ref C :: rest, [(kx, kv)]⟩)) (.call (.ref fI) ⟨.ref (h.objs.size + 1) :: rest, [(kx, kv)]⟩) (W.InitBack (h.objs.size + 1) R)
      ⟨(h.push (W.kdv_tup rest)).push (excO C h.objs.size), g, d, t, os⟩) :
    codeAny (model prog w) A (.call (.ref C) ⟨rest, [(kx, kv)]⟩) R ⟨h, g, d, t, os⟩ := by
  have f1 := tc_lookup
  have f2 := tc_bind (.ref C)
  have hTy : (⟨h, g, d, t, os⟩ : Shared).TypeIs (.ref C) "type" := ⟨_, hC, rfl⟩
  refine codeAny_of_tree ?_
  show wpAny _ _ (callAny (.ref C) _) _ _ _
  repeat (any_goals (first | assumption | with_reducible refine wpAny_loadPart_at hC ?_ | wp_step))
  refine ⟨rfl, ?_⟩
  refine codeAny_call_builtin_at (Code.quiet_builtin _ (by decide +kernel)) entry_typeCall (wpAny_check_type_call_sub hC (type_call_kw F hT hC hi hb hrest ?_))
  refine codeAny_mono hq fun r s' z => ?_
  rcases r with e | (v | _ | _ | _) <;> exact z
end
end QK
end

section
set_option Elab.async false
set_option linter.all false
set_option maxRecDepth 100000
set_option maxHeartbeats 4000000
/-! Qbox: dicts with tuples as keys: setdefault, values; an own __getitem__; methods in a try's body. -/
namespace QM2
open PySem PySem.Spec PyProof.Rows L2
theorem pgetR {α β : Type} {F : α → β → Prop} : ∀ {l₁ : List α} {l₂ : List β} {j : Nat} {x : β}, Paired F l₁ l₂ → l₂[j]? = some x → ∃ y, l₁[j]? = some y ∧ F y x
  | _, _, j, x, .nil, h => by simp at h
  | _, _, 0, x, .cons (a := y) f _, h => by
    cases h
    exact ⟨y, rfl, f⟩
  | _, _, j + 1, x, .cons _ r, h => by
    rw [List.getElem?_cons_succ] at h ⊢
    exact pgetR r h
section
variable {X : Cx}
/-- d.setdefault(b, v), b a tuple of texts -/
def rSetdT : V → List V → Hp → VK → Prop := fun x xs H Q => ∃ (a : Addr) (kvs : List (List L2.Key × V)) (k : List L2.Key) (b : Addr) (v : V), x = .ref a ∧ xs = [.ref b, v] ∧ H a = some (.dT kvs) ∧ H b = some (.tup (k.map kV)) ∧ kvs.length < sizeLine ∧
  (∀ u, valV kvs k = some u → Q u H) ∧ (valV kvs k = none → Q v (upd H a (.dT (putK kvs k v))))
theorem mt_setdT (hu : X.A.units + 64 < cLine) : MtR X "dict.setdefault" rSetdT := by
  intro pins s σ H x xs v us Q I rx rxs h
  obtain ⟨a, kvs, k, b, d, rfl, rfl, ha, hb, hl, q1, q2⟩ := h
  cases rx
  obtain ⟨u1, u2, rfl, r1, r2⟩ := vals2 rxs
  cases r1
  obtain ⟨z, hd, xs', rel, dd⟩ := dt_of I.hok ha
  have hz : xs'.length ≤ sizeLine := by rw [← Paired.length rel]; exact z
  refine call_setdefault_heap (hsz := hz) (tupleKind_room_in1 (by omega)) (key_of I.hok hb) hd dd (fun p hp => ?_) fun hn h' dd' hs => ?_
  · have r := rel.val k
    rw [hp] at r
    obtain ⟨v0, ev, rv⟩ : ∃ v0, valV kvs k = some v0 ∧ RelV v0 p.2 := by
      cases ev : valV kvs k with
      | none =>
        rw [ev] at r
        exact (show False from r).elim
      | some v0 =>
        rw [ev] at r
        exact ⟨v0, rfl, r⟩
    exact ⟨v0, H, I.tok _, rv, q1 v0 ev⟩
  · have r := rel.val k
    rw [hn] at r
    have e : valV kvs k = none := by
      cases ev : valV kvs k with
      | none => rfl
      | some v0 =>
        rw [ev] at r
        exact (show False from r).elim
    have hl2 : (putK kvs k d).length ≤ sizeLine := by have := length_putK kvs k d; omega
    obtain ⟨o, es, ep, hq, h2, h3, h4, _, h5⟩ := dd'
    refine ⟨d, _, d_write (ob := .dT (putK kvs k d)) I (by rw [ha]; exact True.intro) hs ⟨o, hq⟩ ⟨hl2, hd, _, (rel.put k hb r2).keeps fun c ys ec => ?_, o, es, ep, hq, h2, h3, h4, h5⟩, r2, q2 e⟩
    rw [upd_ne (ne_of ec ha (fun z => nomatch z))]
    exact ec
/-- the view d.values() at p -/
def valuesO (p d : Addr) : HO := .ext fun h => h.IsValuesView p d
def rValuesT : V → List V → Hp → VK → Prop := fun x xs H Q => ∃ (a : Addr) (kvs : List (List L2.Key × V)), x = .ref a ∧ xs = [] ∧ H a = some (.dT kvs) ∧ ∀ p, H p = none → Q (.ref p) (upd H p (valuesO p a))
theorem mt_valuesT : MtR X "dict.values" rValuesT := by
  intro pins s σ H x xs v us Q I rx rxs h
  obtain ⟨a, kvs, rfl, rfl, ha, q⟩ := h
  cases rx
  cases rxs
  obtain ⟨z, hd, xs', rel, o, es, ep, ho, hx, hdat, _⟩ := dt_of I.hok ha
  refine call_meetsIn PySem.F.slot_dict_values (⟨o, ho, hx.1⟩ : s.TypeIs (.ref a) "dict") PySem.F.entry_dict_values (PySem.F.args_dict_values_1 _) (PySem.meets_dict_values_raw a hd) ⟨⟨es, ep, o, ho, hx, hdat⟩, ?_⟩
  have hf : H s.heap.objs.size = none := I.hok.fresh (Nat.le_refl _)
  have eg : (s.heap.push { cls := .type "dict_values", data := .fields #[.ref a] }).get? s.heap.objs.size = some { cls := .type "dict_values", data := .fields #[.ref a] } := Heap.get?_push_size _ rfl
  exact ⟨.ref s.heap.objs.size, upd H s.heap.objs.size (valuesO s.heap.objs.size a), I.laid (t' := s.toks) (fun b u e => Heap.get?_push_of_some _ e) (Nat.le_refl _) ⟨⟨_, eg, rfl, rfl⟩, ⟨_, eg⟩, fun h1 h2 x k => let ⟨o, ho, r⟩ := x; ⟨o, k o ho, r⟩⟩, rfl, q _ hf⟩
/-- list(view) -/
def rListVT : List V → Hp → VK → Prop := fun xs H Q => ∃ p a kvs, xs = [.ref p] ∧ H p = some (valuesO p a) ∧ H a = some (.dT kvs) ∧ ∀ q, H q = none → Q (.ref q) (upd H q (.lst (kvs.map (·.2))))
theorem call_listVT (hc : X.calm = true) : CallR X (.type "list") rListVT := by
  intro pins s σ H xs us Q I r h
  obtain ⟨p, a, kvs, rfl, hp, ha, q⟩ := h
  obtain ⟨u, rfl, rx⟩ := r.one
  cases rx
  have hv : s.heap.IsValuesView p a := (show ObjOk X.prog X.w H s.heap p (valuesO p a) from I.hok p _ hp).1
  obtain ⟨z, hd, xs', rel, dd⟩ := dt_of I.hok ha
  obtain ⟨es, ep, raw, hsz, hat⟩ := PySem.Heap.DictOfH.raw dd
  have hl : kvs.length = xs'.length := Paired.length rel
  refine PySem.W.kdl_call (PySem.KdlSrc.rawValues) (I.ok.hd hc) ⟨hv, raw⟩ (by omega) fun h' tk acc' c' hkeep hS hacc => ?_
  refine ⟨.ref s.heap.objs.size, upd H s.heap.objs.size (.lst (kvs.map (·.2))), I.laid hkeep (Nat.le_refl _) (show ObjOk X.prog X.w _ _ _ (.lst (kvs.map (·.2))) from ⟨?_, acc'.toList, c', ?_, ?_⟩), rfl, q _ (I.hok.fresh (Nat.le_refl _))⟩
  · rw [List.length_map]; exact z
  · have el : acc'.toList.length = acc'.size := by simp
    refine vals_of_at (by rw [List.length_map, el, hacc.1, hl, hsz]) fun j x w h1 h2 => ?_
    obtain ⟨hj, rfl⟩ := hacc.2 j w (by rw [← Array.getElem?_toList]; exact h2)
    obtain ⟨y, hy, _, e2, _⟩ := hat j hj
    rw [e2]
    obtain ⟨kv, hk, rr⟩ := pgetR rel hy
    rw [List.getElem?_map, hk] at h1
    cases h1
    exact rr.2.2
  · rw [Array.toArray_toList]; exact hS
end
/-! an own __getitem__ -/
section
variable {X : Cx} {CX : CXT} {k : Nat} {f C : Addr} {fd : FuncData} {ps : List Str} {sp : Sp} {E : XK} {a b : Expr} {ta tb : TE} {pos : Pos}
def tIxO (C : Addr) (sp : Sp) (E : XK) (ta tb : TE) : TE := fun σ H Q => ta σ H fun x H1 => tb σ H1 fun y H2 => ∃ p dx fs, x = .ref p ∧ H2 p = some (.ins C dx fs) ∧ sp [.ref p, y] H2 Q E
theorem pe_ixO (F : FnOk X.prog X.w X.K X.mg X.base CX k f fd ps sp) (hm : Meth X.K C "__getitem__" f) (hf : PySem.W.fnIn X.K f = true) (hr : Room (k + 1) X.A) (hb : Binds X.K fd ps []) (hx : Passes CX X E) (ha : PE X a ta) (hbb : PE X b tb)
    (hsl : ∀ (x : Addr) (i : Value), subscripted b true (.ref x) i = runValue (.builtin "lifetime.subscript" ⟨[.ref x, i], []⟩)) :
    PE X (.Subscript a b pos) (tIxO C sp E ta tb) := by
  refine ⟨fun pins s σ H Q I h => ?_⟩
  refine Subscript_ (binT ha hbb I (R := fun x y H2 => ∃ p dx fs, x = .ref p ∧ H2 p = some (.ins C dx fs) ∧ sp [.ref p, y] H2 Q E) h fun v u s2 x y H2 I2 rx ry q => ?_)
  obtain ⟨p, dx, fs, rfl, hp, q⟩ := q
  obtain rfl : v = Value.ref p := rx
  obtain ⟨mA, J, _⟩ := ins_get I2.hok hp
  obtain ⟨od, J, _⟩ := J.look
  obtain ⟨m, hF⟩ := I2.fr
  refine PySem.W.sub_K hF I2.ok.mod.kin J hm.at_ hf hm.fn ?_ (hsl p u)
  exact QO.run_in (A := X.A.in1) (vs := [.ref p, y]) ⟨hr.in1, rfl⟩ F hb hx I2 (.cons rfl (.cons ry .nil)) q
end
/-! methods in the body of a try -/
section
variable {X : Cx} {CX : CXT} {k : Nat} {f C : Addr} {fd : FuncData} {ps : List Str} {sp : Sp} {E : L2.St → XK} {m : Str} {pos apos : Pos} {o : Expr} {ta : TE}
def tMethS0 (C : Addr) (m : Str) (sp : Sp) (E : L2.St → XK) (ta : TE) : TE := fun σ H Q => ta σ H fun x H1 => ∃ a dx fs, x = .ref a ∧ H1 a = some (.ins C dx fs) ∧ fs.lookup m = none ∧ sp [.ref a] H1 Q (E σ)
theorem pe_methS0 {pl : Sem Bool} (he : PE X o ta) (c : Cls X.K C) (hm : Meth X.K C m f) (F : FnOk X.prog X.w X.K X.mg X.base CX k f fd ps sp) (hr : Room k X.A) (hb : Binds X.K fd ps []) (hx : ∀ σ, PassesAt CX X σ (E σ))
    (ht : eval (.Call (.Attribute o m apos) [] [] pos) X.env = (do
      let ov ← eval o X.env
      standAt apos.atName
      let (f, first) ← holding [ov] (getMethod ov m pl)
      callWith pos f first (backTo pos (starEach [] X.env)) (backToKw pos (keywordEach [] X.env))) := by rfl) :
    PE X (.Call (.Attribute o m apos) [] [] pos) (tMethS0 C m sp E ta) := by
  refine ⟨fun pins s σ H Q I h => ?_⟩
  refine PySem.W.methodCall_KW (pl := pl) (thn (he.run pins s σ H _ I h) fun u s1 ⟨x, H1, I1, rx, a, dx, fs, ex, ea, l, q⟩ => ?_) ht
  subst ex
  obtain rfl : u = Value.ref a := rx
  refine getmeth_ok I1 ea c hm l ?_
  exact PySem.W.callWith_K0 (first := [.ref a]) I1.kIn hm.kp (run_fnS (us := [.ref a]) (vs := [.ref a]) F hr hb (hx σ) I1 (.cons rfl .nil) q)
end
/-! raise X(), X without an __init__ of its own -/
def veMro : List Value := [.type "ValueError", .type "Exception", .type "BaseException", .type "object"]
structure NewX (K : PySem.W.Frag) (C : Addr) : Prop where
  ei : PySem.W.excIn K C veMro "ValueError.__new__" = true
  kp : PySem.W.keepIn K (.ref C) = true
  sub : PySem.W.subIn K (.ref C) (.type "BaseException") = some true
  ty : PySem.W.typeIn K (.ref C) = some (.type "type")
  exc : ExcC K C
def newXB (K : PySem.W.Frag) (C : Addr) : Bool := PySem.W.excIn K C veMro "ValueError.__new__" && (PySem.W.keepIn K (.ref C) && (decide (PySem.W.subIn K (.ref C) (.type "BaseException") = some true) && (decide (PySem.W.typeIn K (.ref C) = some (.type "type")) && QX.excB K C)))
theorem newXB_ok {K : PySem.W.Frag} {C : Addr} (h : newXB K C = true) : NewX K C := by
  unfold newXB at h
  obtain ⟨h1, h⟩ := Bool.and_eq_true_iff.mp h
  obtain ⟨h2, h⟩ := Bool.and_eq_true_iff.mp h
  obtain ⟨h3, h⟩ := Bool.and_eq_true_iff.mp h
  obtain ⟨h4, h5⟩ := Bool.and_eq_true_iff.mp h
  exact ⟨h1, h2, of_decide_eq_true h3, of_decide_eq_true h4, (QX.excB_ok h5).1⟩
theorem pmk_own0 {X : Cx} {C : Addr} {x : Str} {p pos : Pos} (n : NewX X.K C) (hg : Gl X x) (gC : X.mg x = some (.ref C)) (hdb : (x == ("__debug__" : Str)) = false := by decide) :
    PMk X (.Call (.Name x p) [] [] pos) (fun _ H Q => Q (.ref C) none H) := by
  intro pins s σ H Q I h
  refine wpAny_Call_Name_kw (ld_glob I hg gC ?_ hdb)
  refine PySem.W.callWith_K0 I.kIn n.kp ?_
  obtain ⟨bm, N, nm, qn, bs, hdct, sn, sub, ab, col, dd, k0, k1, k2, k3, k5, mN, hC, hN, hni, T⟩ := exc_obj I.kIn n.ei
  refine wpAny_call_exc_subT PySem.F.excBase_ValueError T hC hN hni (fun h' e hm => ?_) (by show 0 ≤ sizeLine; omega)
  exact mk_of I hm (raises_own n.sub n.ty) h (I.hok.gone hm.new)
theorem fn_of {K : PySem.W.Frag} {x qual : Str} {st : Stmt} {f : Addr} {fd : FuncData} (F : L2.Fun K x qual st f fd) : PySem.W.fnIn K f = true := by
  obtain ⟨oc, od, kV, doc, pm, an, cdv, ct, osl, _, hl, _⟩ := F.ex
  unfold PySem.W.fnIn
  rw [hl]
end QM2
end

section
set_option Elab.async false
set_option linter.all false
set_option maxRecDepth 100000
set_option maxHeartbeats 4000000
/-! Qkw: calls by names; exceptions made as values. -/
namespace QK
open PySem PySem.Spec PyProof.Rows L2
/-- the parameters' order: the places of the positional values, then of the keywords' -/
def pk {α : Type} (d : α) (is : List Nat) (us ws : List α) : List α := is.map fun i => (us ++ ws).getD i d
theorem vals_getD {vs : List V} {us : List Value} (h : Vals vs us) (i : Nat) : RelV (vs.getD i .non) (us.getD i .none) := by
  induction h generalizing i with
  | nil => rfl
  | cons a _ ih =>
    cases i with
    | zero => exact a
    | succ i => exact ih i
theorem vals_pk {vs zs : List V} {us ws : List Value} (h1 : Vals vs us) (h2 : Vals zs ws) : ∀ is : List Nat, Vals (pk .non is vs zs) (pk .none is us ws)
  | [] => .nil
  | i :: is => .cons (vals_getD (h1.append h2) i) (vals_pk h1 h2 is)
theorem kb_of {K : PySem.W.Frag} {x qual : Str} {st : Stmt} {f : Addr} {fd : FuncData} {ps : List Str} (F : L2.Fun K x qual st f fd) (n : Nat) (ks : List Str) (is : List Nat)
    (h : ∀ (kV doc pm : Value) (an : Option Addr) (cdv ct : Value) (us ws : List Value), us.length = n → ws.length = ks.length → bindArgs (PySem.W.fnOf x qual (defArgs st) (defBody st) (defScope st) .none kV doc pm an cdv ct) ⟨us, ks.zip ws⟩ = pure (ps.zip (pk .none is us ws))) :
    KBn K fd ps n ks (pk .none is) (pk .non is) := by
  obtain ⟨oc, od, kV, doc, pm, an, cdv, ct, osl, rfl, _, _⟩ := F.ex
  exact ⟨fun s us ws _ l1 l2 => .of_eq (h kV doc pm an cdv ct us ws l1 l2), fun r1 r2 => vals_pk r1 r2 is⟩
section
variable {X : Cx} {CX : CXT} {k n : Nat} {f C : Addr} {fd : FuncData} {ps ks : List Str} {sp : Sp} {E : XK} {x m : Str} {p pos apos : Pos} {o : Expr} {kws : List Keyword} {ta : TE} {tk : TA} {g : List Value → List Value → List Value} {gV : List V → List V → List V}
def tCallK0 (m : Nat) (sp : Sp) (gV : List V → List V → List V) (E : XK) (tk : TA) : TE := fun σ H Q => tk σ H fun zs H2 => zs.length = m ∧ sp (gV [] zs) H2 Q E
/-- f(k = v, ..) -/
theorem pe_callK0 (F : FnOk X.prog X.w X.K X.mg X.base CX k f fd ps sp) (hr : Room k X.A) (hg : Gl X x) (hm : X.mg x = some (.ref f)) (hk : PySem.W.keepIn X.K (.ref f) = true) (hb : KBn X.K fd ps 0 ks g gV) (hx : Passes CX X E)
    (hkw : PK X kws tk) (hall : (backToKw pos (keywordEach kws X.env)).all (·.1.isSome) = true := by rfl) (hks : (backToKw pos (keywordEach kws X.env)).filterMap (·.1) = ks := by rfl)
    (hdb : (x == ("__debug__" : Str)) = false := by decide) (hpl : ((backTo pos (starEach [] X.env)).any (·.1) || (backToKw pos (keywordEach kws X.env)).any (·.1.isNone)) = false := by rfl) :
    PE X (.Call (.Name x p) [] kws pos) (tCallK0 ks.length sp gV E tk) := by
  refine ⟨fun pins s σ H Q I h => ?_⟩
  refine wpAny_Call_Name_kw (ld_glob I hg hm ?_ hdb)
  refine PySem.W.callWith_KW0 (h₀ := X.base) I.ok.mod.kin hk hall ?_ hpl
  refine thn (hkw.run pos pins s σ H _ I h) fun ws s2 ⟨zs, H2, I2, rz, l2, q2⟩ => ⟨I2.kIn, ?_⟩
  rw [hks]
  exact run_fnN (us := []) (vs := []) F hr hb hx I2 .nil rz rfl l2 q2
def tMethK0 (C : Addr) (m : Str) (l : Nat) (sp : Sp) (gV : List V → List V → List V) (E : XK) (ta : TE) (tk : TA) : TE := fun σ H Q => ta σ H fun x H1 => ∃ a dx fs, x = .ref a ∧ H1 a = some (.ins C dx fs) ∧ fs.lookup m = none ∧
  tk σ H1 fun zs H2 => zs.length = l ∧ sp (gV [.ref a] zs) H2 Q E
/-- o.m(k = v, ..) -/
theorem pe_methK0 {pl : Sem Bool} (he : PE X o ta) (c : Cls X.K C) (hm : Meth X.K C m f) (F : FnOk X.prog X.w X.K X.mg X.base CX k f fd ps sp) (hr : Room k X.A) (hb : KBn X.K fd ps 1 ks g gV) (hx : Passes CX X E)
    (hkw : PK X kws tk) (hall : (backToKw pos (keywordEach kws X.env)).all (·.1.isSome) = true := by rfl) (hks : (backToKw pos (keywordEach kws X.env)).filterMap (·.1) = ks := by rfl)
    (hpl : ((backTo pos (starEach [] X.env)).any (·.1) || (backToKw pos (keywordEach kws X.env)).any (·.1.isNone)) = false := by rfl)
    (ht : eval (.Call (.Attribute o m apos) [] kws pos) X.env = (do
      let ov ← eval o X.env
      standAt apos.atName
      let (f, first) ← holding [ov] (getMethod ov m pl)
      callWith pos f first (backTo pos (starEach [] X.env)) (backToKw pos (keywordEach kws X.env))) := by rfl) :
    PE X (.Call (.Attribute o m apos) [] kws pos) (tMethK0 C m ks.length sp gV E ta tk) := by
  refine ⟨fun pins s σ H Q I h => ?_⟩
  refine PySem.W.methodCall_KW (pl := pl) (thn (he.run pins s σ H _ I h) fun u s1 ⟨x, H1, I1, rx, a, dx, fs, ex, ea, l, q⟩ => ?_) ht
  subst ex
  obtain rfl : u = Value.ref a := rx
  refine getmeth_ok I1 ea c hm l ?_
  refine PySem.W.callWith_KW0 (first := [.ref a]) (h₀ := X.base) I.ok.mod.kin hm.kp hall ?_ hpl
  refine thn (hkw.run pos pins s1 σ H1 _ I1 q) fun ws s2 ⟨zs, H2, I2, rz, l2, q2⟩ => ⟨I2.kIn, ?_⟩
  rw [hks]
  exact run_fnN (us := [.ref a]) (vs := [.ref a]) F hr hb hx I2 (.cons rfl .nil) rz rfl l2 q2
end
/-! an own exception class called for a value -/
open QX
/-- the heap with an exception of the class C with the field f at a, its dict at d -/
def exH (H : Hp) (C a d : Addr) (fs : List (Str × V)) : Hp := upd (upd H d (.xd fs)) a (Kept (.ref C) (some d) a)
section
variable {X : Cx} {CX : CXT} {k : Nat} {C fI : Addr} {fd : FuncData} {ps : List Str} {f x kx : Str} {p pos : Pos} {e : Expr} {es : List Expr} {kws : List Keyword} {t tk : TA} {g : List Value → List Value → List Value} {gV : List V → List V → List V}
/-- behind __init__: tracked as what a caught one is -/
theorem ex_kept {pins : List (Addr × Obj)} {σ : L2.St} {H : Hp} {s : Shared} {a d : Addr} {y : V} (I : Inv X pins σ H s) (ha : H a = some (exo a C (some d))) (hd : H d = some (exd d [(f, y)])) :
    Inv X pins σ (upd (upd H d (.xd [(f, y)])) a (Kept (.ref C) (some d) a)) s := by
  obtain ⟨t1, ho⟩ := exo_at I.hok ha
  obtain ⟨mA, hns, rel⟩ := exd_at I.hok hd
  have hda : d ≠ a := fun z => by
    obtain ⟨o, es, ep, e1, e2, _⟩ := hns
    rw [z, ho] at e1
    have z2 := Option.some.inj e1
    subst z2
    cases e2
  have thd : ∃ o, s.heap.get? d = some o := by
    obtain ⟨o, es, ep, e1, _⟩ := hns
    exact ⟨o, e1⟩
  have J := I.write (t' := s.toks) (x := d) (e := d) (o := .xd [(f, y)]) (h' := s.heap) (by rw [hd]; exact True.intro) (.inl rfl) (fun b u _ z => z) thd ⟨mA, hns, rel⟩
  have ha2 : upd H d (.xd [(f, y)]) a = some (exo a C (some d)) := Eq.trans (upd_ne hda.symm) ha
  exact J.write (t' := s.toks) (x := a) (e := a) (o := Kept (.ref C) (some d) a) (h' := s.heap) (by rw [ha2]; exact True.intro) (.inl rfl) (fun b u _ z => z) ⟨_, ho⟩ (kept_ok ho ⟨rfl, rfl⟩ rfl)
theorem run_exV {pins : List (Addr × Obj)} {σ : L2.St} {H : Hp} {s : Shared} {Q : VK} {u : Value} {v : V} (T : ExcT X.K C fI f) (F1 : FnOk X.prog X.w X.K X.mg X.base CX0 k fI fd ps (spExI X.K C f)) (hr : Room (k + 1) X.A) (hx : Passes CX0 X (fun _ _ _ => False))
    (I : Inv X pins σ H s) (r : RelV v u) (us : List Value) (kw : List (Str × Value)) (hcall : (us = [u] ∧ kw = []) ∨ (∃ kx, us = [] ∧ kw = [(kx, u)]))
    (hb : ∀ (s : Shared) (a : Value), X.K.In s.heap → BindsTo s fd ⟨a :: us, kw⟩ (ps.zip [a, u]))
    (h : ∀ a d, H a = none → H d = none → d ≠ a → Q (.ref a) (exH H C a d [(f, v)])) : wpAny (model X.prog X.w) X.A (call (.ref C) us kw) (EP X pins σ Q) X.xe s := by
  obtain ⟨nm, q, N, bs, bm, sn, sub, ab, col, dd, k0, k1, k2, k3, k5, hC, hbm⟩ := T.oex.cls
  obtain ⟨hp, gs, dr, tk0, os⟩ := s
  have hsz : hp.objs.size ≤ hp.objs.size + 1 := Nat.le_succ _
  have hn : H (hp.objs.size + 1) = none := I.hok.fresh hsz
  have kk : ∀ (l : List Value) b o, hp.get? b = some o → ((hp.push (PySem.W.kdv_tup l)).push (PySem.HandSPX.excO C hp.objs.size)).get? b = some o := fun l b o e => Heap.get?_push_of_some _ (Heap.get?_push_of_some _ e)
  have hget : ∀ l : List Value, ((hp.push (PySem.W.kdv_tup l)).push (PySem.HandSPX.excO C hp.objs.size)).get? (hp.objs.size + 1) = some (PySem.HandSPX.excO C hp.objs.size) := fun l => by heap_get
  have I2 : ∀ l : List Value, Inv X pins σ (upd H (hp.objs.size + 1) (exo (hp.objs.size + 1) C none)) ⟨(hp.push (PySem.W.kdv_tup l)).push (PySem.HandSPX.excO C hp.objs.size), gs, dr, tk0, os⟩ := fun l =>
    I.laid (t' := tk0) (a := hp.objs.size + 1) (o := exo (hp.objs.size + 1) C none) (h' := (hp.push (PySem.W.kdv_tup l)).push (PySem.HandSPX.excO C hp.objs.size)) (kk l) hsz (exo_ok (hget l))
  have r2 : Vals [V.ref (hp.objs.size + 1), v] [Value.ref (hp.objs.size + 1), u] := .cons rfl (.cons r .nil)
  have hsp : spExI X.K C f [V.ref (hp.objs.size + 1), v] (upd H (hp.objs.size + 1) (exo (hp.objs.size + 1) C none)) (fun y H2 => y = .non ∧ ∃ d, H2 (hp.objs.size + 1) = some (exo (hp.objs.size + 1) C (some d)) ∧ H2 d = some (exd d [(f, v)]) ∧ Q (.ref (hp.objs.size + 1)) (exH H2 C (hp.objs.size + 1) d [(f, v)])) (fun _ _ _ => False) := by
    refine ⟨_, v, rfl, upd_same, fun dx hd hne => ⟨rfl, dx, upd_same, Eq.trans (upd_ne hne) upd_same, ?_⟩⟩
    have hdx : H dx = none := by rw [← hd, upd_ne hne]
    have e : exH (upd (upd (upd H (hp.objs.size + 1) (exo (hp.objs.size + 1) C none)) dx (exd dx [(f, v)])) (hp.objs.size + 1) (exo (hp.objs.size + 1) C (some dx))) C (hp.objs.size + 1) dx [(f, v)] = exH H C (hp.objs.size + 1) dx [(f, v)] := by
      funext b
      unfold exH
      by_cases h1 : b = hp.objs.size + 1
      · rw [h1, upd_same, upd_same]
      · rw [upd_ne h1, upd_ne h1]
        by_cases h2 : b = dx
        · rw [h2, upd_same, upd_same]
        · rw [upd_ne h2, upd_ne h2, upd_ne h1, upd_ne h2, upd_ne h1]
    rw [e]
    exact h _ dx hn hdx hne
  have fin : ∀ (A : Around) (l : List Value) (rr : Result) (s' : Shared), CR CX0 X.stack X.prog X.w (upd H (hp.objs.size + 1) (exo (hp.objs.size + 1) C none)) ⟨(hp.push (PySem.W.kdv_tup l)).push (PySem.HandSPX.excO C hp.objs.size), gs, dr, tk0, os⟩
      (fun y H2 => y = .non ∧ ∃ d, H2 (hp.objs.size + 1) = some (exo (hp.objs.size + 1) C (some d)) ∧ H2 d = some (exd d [(f, v)]) ∧ Q (.ref (hp.objs.size + 1)) (exH H2 C (hp.objs.size + 1) d [(f, v)])) (fun _ _ _ => False) rr s' →
      PySem.W.InitBack (hp.objs.size + 1) (fun r s2 => match r with | .ok (.ret w) => EP X pins σ Q w s2 | .ok _ => False | .error e => X.xe e s2) rr s' := by
    intro A l rr s' hq'
    cases rr with
    | error er => exact hx pins σ _ _ er s' (I2 l) hq'
    | ok fl =>
      cases fl with
      | ret u2 =>
        obtain ⟨v2, H2, I3, rv, ev, d, ea, ed, q2⟩ := (I2 l).after hq'
        subst ev
        exact ⟨rv, ⟨V.ref (hp.objs.size + 1), _, ex_kept I3 ea ed, rfl, q2⟩⟩
      | next => exact False.elim hq'
      | brk => exact False.elim hq'
      | cont => exact False.elim hq'
  rcases hcall with ⟨rfl, rfl⟩ | ⟨kx, rfl, rfl⟩
  · refine wpAny_call (codeAny_mono (PySem.HandSPX.call_own (R := fun r s2 => match r with | .ok (.ret w) => EP X pins σ Q w s2 | .ok _ => False | .error e => X.xe e s2) F.excBase_ValueError (fun Y => PySem.HandSPX.refsVE_contains Y bm hbm) (I.kIn _ _ hC) (PySem.W.looks_findIn I.kIn T.iC) (fun self => PySem.W.bind_fn I.kIn self T.tI) (by show 1 ≤ sizeLine; rw [sizeLine_eq]; omega)
      (codeAny_mono (F1.run _ X.stack _ _ ⟨[Value.ref (hp.objs.size + 1), u], []⟩ [Value.ref (hp.objs.size + 1), u] _ _ (fun _ _ _ => False) (hr.make C [u] []) ((I2 [u]).env0.make C [u] []) (hb _ _ (I2 [u]).kIn) r2 hsp) fun rr s' hq' => fin X.A _ rr s' hq')) fun rr s' hz => ?_)
    cases rr with
    | error er => exact hz
    | ok fl => cases fl <;> exact hz
  · refine wpAny_call (codeAny_mono (QK.call_kw (R := fun r s2 => match r with | .ok (.ret w) => EP X pins σ Q w s2 | .ok _ => False | .error e => X.xe e s2) F.excBase_ValueError (fun Y => PySem.HandSPX.refsVE_contains Y bm hbm) (I.kIn _ _ hC) (PySem.W.looks_findIn I.kIn T.iC) (fun self => PySem.W.bind_fn I.kIn self T.tI) (by show 0 ≤ sizeLine; rw [sizeLine_eq]; omega)
      (codeAny_mono (F1.run _ X.stack _ _ ⟨[Value.ref (hp.objs.size + 1)], [(kx, u)]⟩ [Value.ref (hp.objs.size + 1), u] _ _ (fun _ _ _ => False) (hr.make C [] [(kx, u)]) ((I2 []).env0.make C [] [(kx, u)]) (hb _ _ (I2 []).kIn) r2 hsp) fun rr s' hq' => fin X.A _ rr s' hq')) fun rr s' hz => ?_)
    cases rr with
    | error er => exact hz
    | ok fl => cases fl <;> exact hz
/-- C(e) -/
def tExV (C : Addr) (f : Str) (te : TE) : TE := fun σ H Q => te σ H fun v H1 => ∀ a d, H1 a = none → H1 d = none → d ≠ a → Q (.ref a) (exH H1 C a d [(f, v)])
theorem pe_exV {te : TE} (T : ExcT X.K C fI f) (F1 : FnOk X.prog X.w X.K X.mg X.base CX0 k fI fd ps (spExI X.K C f)) (hr : Room (k + 1) X.A) (hb : Binds X.K fd ps []) (hx : Passes CX0 X (fun _ _ _ => False)) (hl : ps.length = 2) (hg : Gl X x) (hm : X.mg x = some (.ref C)) (he : PE X e te)
    (hdb : (x == ("__debug__" : Str)) = false := by decide) (hs : starEach [e] X.env = (false, eval e X.env) :: starEach [] X.env := by rfl) :
    PE X (.Call (.Name x p) [e] [] pos) (tExV C f te) := by
  refine ⟨fun pins s σ H Q I h => ?_⟩
  refine wpAny_Call_Name_kw (ld_glob I hg hm ?_ hdb)
  refine PySem.W.callWith_K (h₀ := X.base) I.ok.mod.kin T.oex.kC ?_ hs (by rfl)
  rw [hs]
  show wpAny _ _ (spliced ((false, eval e X.env) :: backTo pos (starEach [] X.env))) _ _ s
  refine Calls.spliced_cons (thn (he.run pins s σ H _ I h) fun u s1 ⟨v, H1, I1, r1, q1⟩ => ?_)
  refine Calls.spliced_nil ⟨I1.kIn, ?_⟩
  exact run_exV T F1 hr hx I1 r1 [u] [] (.inl ⟨rfl, rfl⟩) (fun s a hk => by
    have := hb s [a, u] hk (by rw [hl]; rfl)
    rw [List.append_nil] at this
    exact this) q1
/-- C(f = e) -/
def tExVK (C : Addr) (f : Str) (te : TE) : TE := fun σ H Q => te σ H fun v H1 => ∃ v2, [v] = [v2] ∧ ∀ a d, H1 a = none → H1 d = none → d ≠ a → Q (.ref a) (exH H1 C a d [(f, v2)])
theorem pe_exVK {te : TE} {nm : Str} {kpos : Pos} (T : ExcT X.K C fI f) (F1 : FnOk X.prog X.w X.K X.mg X.base CX0 k fI fd ps (spExI X.K C f)) (hr : Room (k + 1) X.A) (hb : KBn X.K fd ps 1 [nm] (pk .none [0, 1]) (pk .non [0, 1])) (hx : Passes CX0 X (fun _ _ _ => False)) (hg : Gl X x) (hm : X.mg x = some (.ref C)) (he : PE X e te)
    (hdb : (x == ("__debug__" : Str)) = false := by decide) :
    PE X (.Call (.Name x p) [] [⟨some nm, e, kpos⟩] pos) (tExVK C f te) := by
  refine ⟨fun pins s σ H Q I h => ?_⟩
  refine wpAny_Call_Name_kw (ld_glob I hg hm ?_ hdb)
  refine PySem.W.callWith_KW0 (h₀ := X.base) I.ok.mod.kin T.oex.kC (by rfl) ?_ (by rfl)
  refine thn ((pk_cons (nm := some nm) (kpos := kpos) he pk_nil).run pos pins s σ H (fun zs H1 => ∃ v, zs = [v] ∧ ∀ a d, H1 a = none → H1 d = none → d ≠ a → Q (.ref a) (exH H1 C a d [(f, v)])) I ?_) fun ws s2 ⟨zs, H2, I2, rz, v, ez, q2⟩ => ⟨I2.kIn, ?_⟩
  · exact h
  · subst ez
    obtain ⟨u, rfl, ru⟩ := rz.one
    exact run_exV T F1 hr hx I2 ru [] [(nm, u)] (.inr ⟨nm, rfl, rfl⟩) (fun s a hk => hb.to s [a] [u] hk rfl rfl) q2
/-- C(), C without an __init__ of its own -/
def tExV0 (C : Addr) : TE := fun _ H Q => ∀ a, H a = none → Q (.ref a) (upd H a (Kept (.ref C) none a))
theorem pe_exV0 (n : QM2.NewX X.K C) (hg : Gl X x) (gC : X.mg x = some (.ref C)) (hdb : (x == ("__debug__" : Str)) = false := by decide) :
    PE X (.Call (.Name x p) [] [] pos) (tExV0 C) := by
  refine ⟨fun pins s σ H Q I h => ?_⟩
  refine wpAny_Call_Name_kw (ld_glob I hg gC ?_ hdb)
  refine PySem.W.callWith_K0 I.kIn n.kp ?_
  obtain ⟨bm, N, nm, qn, bs, hdct, sn, sub, ab, col, dd, k0, k1, k2, k3, k5, mN, hC, hN, hni, T⟩ := exc_obj I.kIn n.ei
  refine wpAny_call_exc_subT PySem.F.excBase_ValueError T hC hN hni (fun h' a hm => ?_) (by show 0 ≤ sizeLine; omega)
  have hn : H a = none := I.hok.gone hm.new
  obtain ⟨t, ht, _, _⟩ := hm.there
  exact ⟨.ref a, upd H a (Kept (.ref C) none a), I.laidN hm.keeps hm.new hn (kept_ok ht ⟨rfl, rfl⟩ rfl), rfl, h a hn⟩
end
end QK
end

section
set_option Elab.async false
set_option linter.all false
set_option maxRecDepth 100000
set_option maxHeartbeats 4000000
/-! Qset: how many different texts a list holds, as len(set(xs)). -/
namespace QZ
open PySem PySem.Spec PyProof.Rows L2
def dd (σ : List Str) (v : Str) : List Str := if v ∈ σ then σ else σ ++ [v]
def fm (xs : List Str) (i : Nat) : List Str := (xs.take i).foldl dd []
theorem fm_zero {xs : List Str} : fm xs 0 = [] := rfl
theorem fm_succ {xs : List Str} {i : Nat} (h : i < xs.length) : fm xs (i + 1) = dd (fm xs i) (xs.getD i Str.empty) := by
  unfold fm
  rw [List.take_add_one, List.getElem?_eq_getElem h, List.foldl_append, List.getD_eq_getElem?_getD, List.getElem?_eq_getElem h]
  rfl
theorem fm_le {xs : List Str} : ∀ i, i ≤ xs.length → (fm xs i).length ≤ i
  | 0, _ => Nat.le_refl _
  | i + 1, h => by
    rw [fm_succ (by omega)]
    have ih := fm_le (xs := xs) i (by omega)
    unfold dd
    split
    · omega
    · rw [List.length_append]
      exact Nat.succ_le_succ ih
theorem dd_mem {σ : List Str} {v k : Str} : k ∈ dd σ v ↔ k ∈ σ ∨ k = v := by
  unfold dd
  split
  · rename_i h
    exact ⟨.inl, fun z => z.elim id fun e => e ▸ h⟩
  · rw [List.mem_append, List.mem_singleton]
theorem dd_len {σ : List Str} {v : Str} : (dd σ v).length = if decide (v ∈ σ) = true then σ.length else σ.length + 1 := by
  unfold dd
  by_cases h : v ∈ σ
  · rw [if_pos h, if_pos (decide_eq_true h)]
  · rw [if_neg h, if_neg (by rw [decide_eq_true_eq]; exact h), List.length_append]
    rfl
theorem dd_nodup {σ : List Str} {v : Str} (h : σ.Nodup) : (dd σ v).Nodup := by
  unfold dd
  split
  · exact h
  · rename_i n
    exact List.nodup_append.mpr ⟨h, by simp, fun a ha b hb e => n (by rw [← List.mem_singleton.mp hb, ← e]; exact ha)⟩
section
variable {prog : Program} {w : World} {A : Around} {R : Result → Shared → Prop} {I : Addr} {fp wr : List Addr} {G : Array GenState → Array GenState → Prop} {n : Nat} {P : Nat → Value → Prop} {St : Nat → Shared → Prop}
abbrev Has (prog : Program) (w : World) (h : Heap) (S : Addr) (xs : List Str) (i : Nat) : Prop := h.SetOf (PySem.strKind prog w) S (fun k => decide (k ∈ fm xs i)) (fm xs i).length
theorem Has.kept {h h' : Heap} {S : Addr} {xs : List Str} {i : Nat} (x : Has prog w h S xs i) (k : ∀ o, h.get? S = some o → h'.get? S = some o) : Has prog w h' S xs i := by
  obtain ⟨o, es, ep, t, ho, rest⟩ := x
  exact ⟨o, es, ep, t, k o ho, rest⟩
theorem loop (W : WalksS prog w A.in1 I fp wr G n P St) {S : Addr} (hSf : S ∉ fp) {xs : List Str} (hsz : xs.length = n) (hb : n + 1 < scanBound)
    (hval : ∀ i v, P i v → ∃ t, v = .str (xs.getD i Str.empty) t) : ∀ (k i : Nat) (s : Shared), n = i + k → St i s → Has prog w s.heap S xs i →
      (∀ s', Moved (S :: wr) G s s' → Has prog w s'.heap S xs n → R (.ok (.ret .none)) s') → codeAny (model prog w) A (.builtin "set.update.loop" ⟨[.ref S, .ref I], []⟩) R s := by
  have hSw : S ∉ wr := fun h => hSf (W.sub _ h)
  have hsub : ∀ b ∈ wr, b ∈ S :: wr := fun b hb => List.mem_cons_of_mem _ hb
  intro k
  induction k with
  | zero =>
    intro i s hk hst hS hR
    have hk : n = i := hk
    subst hk
    refine codeAny_builtin PyProof.Rows.F.entry_set_update_loop ?_
    rw [Around.under_plainId PyProof.Rows.F.plain_set_update_loop _]
    show wpAny _ A.in1 (pyNext (.ref I) >>= _) _ _ s
    refine wpAny_bind (W.done s _ _ hst fun s' hm => ?_)
    show wpAny _ A.in1 (ret Value.none) _ _ s'
    exact wpAny_pure (hR s' (hm.mono hsub) (hS.kept fun o e => hm.heap S o hSw e))
  | succ k ih =>
    intro i s hk hst hS hR
    refine codeAny_builtin PyProof.Rows.F.entry_set_update_loop ?_
    rw [Around.under_plainId PyProof.Rows.F.plain_set_update_loop _]
    show wpAny _ A.in1 (pyNext (.ref I) >>= _) _ _ s
    refine wpAny_bind (W.item i s _ _ (by omega) hst fun v s1 hP hst1 hm => ?_)
    obtain ⟨t, rfl⟩ := hval i v hP
    have hS1 : Has prog w s1.heap S xs i := hS.kept fun o e => hm.heap S o hSw e
    show wpAny _ A.in1 (holding [Value.str (xs.getD i Str.empty) t] (setAdd S (.str (xs.getD i Str.empty) t)) >>= _) _ _ s1
    refine wpAny_bind (wpAny_holding ?_)
    unfold setAdd
    refine wpAny_holding ?_
    refine wpAny_bind ((PySem.strKind prog w).pyHash (k := xs.getD i Str.empty) (strKind_is _ _ _ _) ?_)
    have few := fm_le (xs := xs) i (by omega)
    refine wpAny_setAddHashed_of (knd := PySem.strKind prog w) (s := { s1 with toks := s1.toks + 1 }) (strKind_is _ _ _ _) rfl hS1 (by omega) fun h2 hsb hS2 => ?_
    have hS3 : Has prog w h2 S xs (i + 1) := by
      refine SetOf_congr hS2 (fun k' => ?_) ?_
      · rw [fm_succ (by omega), Bool.eq_iff_iff, Bool.or_eq_true, decide_eq_true_eq, decide_eq_true_eq, decide_eq_true_eq]
        exact dd_mem.symm
      · rw [fm_succ (by omega), dd_len]
    refine wpAny_pure ⟨plainId_quiet PyProof.Rows.F.plain_set_update_loop _, ih (i + 1) _ (by omega) (W.frame _ s1 _ _ hst1 (Nat.le_succ _) fun b hb o e => ?_) hS3 fun s3 hm3 hS4 => ?_⟩
    · rw [hsb.2 b (fun h : b = S => hSf (h ▸ hb))]
      exact e
    · refine hR s3 (Moved.trans W.gtrans ((hm.mono hsub).then_heap (Nat.le_succ _) fun b o hb e => ?_) hm3) hS4
      rw [hsb.2 b (fun h : b = S => hb (h ▸ List.mem_cons_self))]
      exact e
end
section
variable {prog : Program} {w : World} {A : Around} {E : Value → Shared → Prop} {s : Shared}
set_option maxHeartbeats 3200000 in
theorem call_set {l : Addr} {items : Array Value} {xs : List Str} {Q : Value → Shared → Prop} (hh : A.handled = none) (hl : s.heap.IsList l items) (hi : StrsAre items.toList xs) (hb : xs.length + 1 < scanBound)
    (h : ∀ (h' : Heap) (tk : Nat), Has prog w h' s.heap.objs.size xs xs.length → (∀ b o, b < s.heap.objs.size → s.heap.get? b = some o → h'.get? b = some o) → Q (.ref s.heap.objs.size) { s with heap := h', toks := tk }) :
    wpAny (model prog w) A (call (.type "set") [.ref l]) Q E s := by
  have hsz : xs.length = items.size := by rw [← StrsAre.len_eq hi, Array.length_toList]
  obtain ⟨c, tl, hmro⟩ := PySem.F.called_set.mro
  have hmade := PySem.F.called_set.made
  have hsub := PySem.F.called_set.sub
  refine wpAny_call (codeAny_of_tree ?_)
  show wpAny _ _ (callAny (.type "set") _) _ _ _
  refine wpAny_pure ⟨Code.quiet_builtin _ (by decide +kernel), codeAny_builtin PySem.F.entry_type_call ?_⟩
  rw [Around.under_plain (weight_type_call_type "set" [.ref l] []) rfl]
  have h1 := PySem.F.called_set.notType
  have h2 := PySem.F.called_set.canCreate
  have hct := PySem.F.typeCall_set_1 (.ref l)
  repeat (any_goals (first | assumption | wp_step))
  refine codeAny_mono (code_set_new_1 (.ref l) (E := E) (Q₁ := fun obj s₁ => ∃ led : Bool, obj = .ref s.heap.objs.size ∧ s₁ = { s with heap := s.heap.push { cls := .type "set", dict := none, data := .set #[] 0 (.fresh 0 0 led) } }) fun led => ⟨led, rfl, rfl⟩) fun r s₁ hr => ?_
  cases r with
  | error e => exact hr
  | ok fl =>
  cases fl with
  | brk => exact hr.elim
  | cont => exact hr.elim
  | next => exact hr.elim
  | ret obj =>
  obtain ⟨led, rfl, rfl⟩ := hr
  have hS : (s.heap.push { cls := .type "set", dict := none, data := .set #[] 0 (.fresh 0 0 led) }).get? s.heap.objs.size = some { cls := .type "set", dict := none, data := .set #[] 0 (.fresh 0 0 led) } := Heap.get?_push_size _ rfl
  have hT : Shared.TypeIs { s with heap := s.heap.push { cls := .type "set", dict := none, data := .set #[] 0 (.fresh 0 0 led) } } (.ref s.heap.objs.size) "set" := ⟨_, hS, rfl⟩
  have hli := PySem.F.called_set.init.lookup
  have hbi := PySem.F.called_set.init.bind (.ref s.heap.objs.size)
  repeat (any_goals (first | assumption | wp_step))
  refine codeAny_mono (codeAny_call_builtin (R := wants (fun r s₂ => r = .none ∧ ∃ h' tk, s₂ = { s with heap := h', toks := tk } ∧ Has prog w h' s.heap.objs.size xs xs.length ∧ (∀ b o, b < s.heap.objs.size → s.heap.get? b = some o → h'.get? b = some o)) E) PySem.F.called_set.init.plain PySem.F.entry_set_init (check_set_init_1 hT ?_)) fun r₂ s₂ hr₂ => ?_
  · obtain ⟨ol, hol, hcl, nl, hdl⟩ := hl
    obtain ⟨ocls, odict, odata, oslots⟩ := ol
    simp only at hcl hdl
    subst hcl; subst hdl
    have hol' : (s.heap.push { cls := .type "set", dict := none, data := .set #[] 0 (.fresh 0 0 led) }).get? l = some { cls := .type "list", dict := odict, data := .seq items nl, slots := oslots } := Heap.get?_push_of_some _ hol
    have hsls := PySem.F.sub_list_set
    have hslf := PySem.F.sub_list_frozenset
    have hne : (Value.type "list" == Value.type "dict") = false := by decide
    have hl1 : (s.heap.push { cls := .type "set", dict := none, data := .set #[] 0 (.fresh 0 0 led) }).IsList l items := ⟨_, hol', rfl, nl, rfl⟩
    unfold Builtin.«set.__init__» noKeywords Builtin.Frozenset.updateFrom
    generalize hPI : pyIter = PI
    wp_walk
    subst hPI
    refine wpAny_pyIter_list hl1 ?_
    refine wpAny_bind (wpAny_runValue ?_)
    have hlS : l < s.heap.objs.size := Heap.lt_size hol
    have hh3 : A.in1.in1.in1.handled = none := by simp [hh]
    have hneI : l ≠ (s.heap.push { cls := .type "set", dict := none, data := .set #[] 0 (.fresh 0 0 led) }).objs.size := by
      rw [Heap.size_push]; exact Nat.ne_of_lt (Nat.lt_succ_of_lt hlS)
    have hSf : s.heap.objs.size ∉ [(s.heap.push { cls := .type "set", dict := none, data := .set #[] 0 (.fresh 0 0 led) }).objs.size, l] := by
      rw [Heap.size_push]; simp only [List.mem_cons, List.mem_singleton, List.not_mem_nil, or_false, not_or]
      exact ⟨Nat.ne_of_lt (Nat.lt_succ_self _), Nat.ne_of_gt hlS⟩
    refine loop ((Walks.list hh3 _ l hneI items).toS) hSf hsz (by rw [← hsz]; exact hb) (fun i v hv => SS.strs_at hi i v (by rw [Array.getElem?_toList]; exact hv)) items.size 0 _ (by omega)
      ⟨⟨_, Heap.get?_push_size _ rfl, rfl, rfl⟩, (hl1.push _)⟩ ?_ ?_
    · have hget : ((s.heap.push { cls := .type "set", dict := none, data := .set #[] 0 (.fresh 0 0 led) }).push { cls := .type "list_iterator", data := .fields #[.ref l, .int 0 0] }).get? s.heap.objs.size = some { cls := .type "set", dict := none, data := .set #[] 0 (.fresh 0 0 led) } := Heap.get?_push_of_some _ hS
      exact SetOf_congr ((setObjOf_fresh (knd := PySem.strKind prog w) led).setOf hget (by unfold scanBound; omega)) (fun _ => rfl) rfl
    · intro s' hm hS'
      obtain ⟨h', g', d', tk', os'⟩ := s'
      have eg : g' = s.gens := hm.gens
      have ed : d' = s.drawn := hm.drawn
      have eo : os' = s.os := hm.os
      subst eg; subst ed; subst eo
      show wpAny _ _ _ _ _ _
      refine wpAny_pure ?_
      show wpAny _ _ (ret Value.none) _ _ _
      refine wpAny_pure ⟨rfl, h', tk', rfl, by rw [hsz]; exact hS', fun b o hb e => ?_⟩
      refine hm.heap b o ?_ (Heap.get?_push_of_some _ (Heap.get?_push_of_some _ e))
      rw [Heap.size_push]
      simp only [List.mem_cons, List.mem_singleton, List.not_mem_nil, or_false, not_or]
      exact ⟨Nat.ne_of_lt hb, Nat.ne_of_lt (Nat.lt_succ_of_lt hb)⟩
  cases r₂ with
  | error e => exact hr₂
  | ok fl =>
  cases fl with
  | brk => exact hr₂.elim
  | cont => exact hr₂.elim
  | next => exact hr₂.elim
  | ret r =>
  obtain ⟨rfl, h', tk, rfl, hS', hk'⟩ := hr₂
  repeat (any_goals (first | assumption | wp_step))
  exact h _ _ hS' hk'
end
section
variable {X : Cx}
/-- how many different texts -/
def tMany (K : PySem.W.Frag) (ta : TE) : TE := fun σ H Q => ta σ H fun x H1 => ∃ (l : Addr) (xs : List Str), x = V.ref l ∧ SqL K H1 l (xs.map V.str) ∧ xs.length + 1 < scanBound ∧ Q (.int (fm xs xs.length).length) H1
theorem pe_many {a : Expr} {ta : TE} {p p2 q pos : Pos} (hc : X.calm = true) (hg : Gl X "len") (hm : X.mg "len" = none) (hg2 : Gl X "set") (hm2 : X.mg "set" = none) (ha : PE X a ta)
    (na : starEach [a] X.env = (false, eval a X.env) :: starEach [] X.env := by rfl) : PE X (.Call (.Name "len" p) [.Call (.Name "set" p2) [a] [] q] [] pos) (tMany X.K ta) := by
  refine ⟨fun pins s σ H Q I h => ?_⟩
  refine Call_ (ld_blt I hg hm PySem.boot_len ?_)
  refine PyProof.Rows.callWith_builtin1 (PyProof.Rows.args_cons ?_ rfl) rfl rfl
  refine Call_ (ld_blt I hg2 hm2 PyProof.Rows.boot_set ?_)
  refine PyProof.Rows.callWith_type1 (PyProof.Rows.args_cons (thn (ha.run pins s σ H _ I h) fun v s1 ⟨x, H1, I1, r1, q1⟩ => PyProof.Rows.args_nil ?_) na) na rfl
  obtain ⟨l, xs, rfl, hq, hb, q1⟩ := q1
  cases r1
  obtain ⟨its, r, pl, hz⟩ := I1.list hq
  refine call_set (I1.ok.hd hc) pl.isList (by simpa using strsAre_of r) hb fun h' tk hS hk => ?_
  refine PyProof.Rows.args_nil ?_
  obtain ⟨o, es, ep, t, ho, hex, hd, _, _, _, hf, hn⟩ := hS
  have I2 : Inv X pins σ H1 { s1 with heap := h', toks := tk } := I1.kept fun b o e => hk b o (Heap.lt_size e) e
  have few := fm_le (xs := xs) xs.length (Nat.le_refl _)
  unfold scanBound at hb
  exact call_len_set ho hex hd hf (by rw [hn]; omega) ⟨.int (fm xs xs.length).length, H1, I2.tok _, ⟨_, by rw [hn]⟩, q1⟩
end
end QZ
end

section
set_option Elab.async false
set_option linter.all false
set_option maxRecDepth 100000
set_option maxHeartbeats 4000000
namespace Law
open PySem PySem.Spec PyProof.Rows L2 LamX QB QM
def topS (i : Nat) : Stmt := PySem.Challenge.pw_subjecttags_k10_whole_makers.main.body.getD i (.Pass ⟨0, 0, 0, 0⟩)
abbrev s_InvalidTags___init__ : Stmt := inClass (topS 2) 0
theorem sc_InvalidTags___init__ : FnScope ["self", "index"] ["self", "index"] (defScope s_InvalidTags___init__) := ⟨rfl, rfl, rfl, by decide +kernel, rfl, by decide +kernel, by decide +kernel⟩
abbrev s_InvalidSubject___init__ : Stmt := inClass (topS 3) 0
theorem sc_InvalidSubject___init__ : FnScope ["self", "index"] ["self", "index"] (defScope s_InvalidSubject___init__) := ⟨rfl, rfl, rfl, by decide +kernel, rfl, by decide +kernel, by decide +kernel⟩
abbrev s_InvalidEater___init__ : Stmt := inClass (topS 4) 0
theorem sc_InvalidEater___init__ : FnScope ["self", "index"] ["self", "index"] (defScope s_InvalidEater___init__) := ⟨rfl, rfl, rfl, by decide +kernel, rfl, by decide +kernel, by decide +kernel⟩
abbrev s_InvalidTag___init__ : Stmt := inClass (topS 5) 0
theorem sc_InvalidTag___init__ : FnScope ["self", "tag"] ["self", "tag"] (defScope s_InvalidTag___init__) := ⟨rfl, rfl, rfl, by decide +kernel, rfl, by decide +kernel, by decide +kernel⟩
abbrev s_InvalidPairs___init__ : Stmt := inClass (topS 6) 0
theorem sc_InvalidPairs___init__ : FnScope ["self", "index"] ["self", "index"] (defScope s_InvalidPairs___init__) := ⟨rfl, rfl, rfl, by decide +kernel, rfl, by decide +kernel, by decide +kernel⟩
abbrev s_InvalidNumber___init__ : Stmt := inClass (topS 7) 0
theorem sc_InvalidNumber___init__ : FnScope ["self", "number"] ["self", "number"] (defScope s_InvalidNumber___init__) := ⟨rfl, rfl, rfl, by decide +kernel, rfl, by decide +kernel, by decide +kernel⟩
abbrev s_TooMany___init__ : Stmt := inClass (topS 9) 0
theorem sc_TooMany___init__ : FnScope ["self", "limit"] ["self", "limit"] (defScope s_TooMany___init__) := ⟨rfl, rfl, rfl, by decide +kernel, rfl, by decide +kernel, by decide +kernel⟩
abbrev s_is_number : Stmt := topS 17
theorem sc_is_number : FnScope ["x", "least", "most"] ["x", "least", "most"] (defScope s_is_number) := ⟨rfl, rfl, rfl, by decide +kernel, rfl, by decide +kernel, by decide +kernel⟩
abbrev s_is_list : Stmt := topS 18
theorem sc_is_list : FnScope ["x", "least", "most"] ["x", "least", "most"] (defScope s_is_list) := ⟨rfl, rfl, rfl, by decide +kernel, rfl, by decide +kernel, by decide +kernel⟩
abbrev s_is_name : Stmt := topS 19
theorem sc_is_name : FnScope ["x", "letter"] ["x"] (defScope s_is_name) := ⟨rfl, rfl, rfl, by decide +kernel, rfl, by decide +kernel, by decide +kernel⟩
abbrev s_is_tag : Stmt := topS 20
theorem sc_is_tag : FnScope ["tags", "x"] ["tags", "x"] (defScope s_is_tag) := ⟨rfl, rfl, rfl, by decide +kernel, rfl, by decide +kernel, by decide +kernel⟩
abbrev s_is_subject : Stmt := topS 21
theorem sc_is_subject : FnScope ["tags", "x", "tag"] ["tags", "x"] (defScope s_is_subject) := ⟨rfl, rfl, rfl, by decide +kernel, rfl, by decide +kernel, by decide +kernel⟩
abbrev s_is_standing : Stmt := topS 22
theorem sc_is_standing : FnScope ["tags", "many", "x", "word", "ways", "way"] ["tags", "many", "x"] (defScope s_is_standing) := ⟨rfl, rfl, rfl, by decide +kernel, rfl, by decide +kernel, by decide +kernel⟩
abbrev s_check_tags : Stmt := topS 23
theorem sc_check_tags : FnScope ["tags", "at", "tag"] ["tags"] (defScope s_check_tags) := ⟨rfl, rfl, rfl, by decide +kernel, rfl, by decide +kernel, by decide +kernel⟩
abbrev s_check_word : Stmt := topS 24
theorem sc_check_word : FnScope ["tags", "word", "most", "at", "tag"] ["tags", "word", "most"] (defScope s_check_word) := ⟨rfl, rfl, rfl, by decide +kernel, rfl, by decide +kernel, by decide +kernel⟩
abbrev s_check_standings : Stmt := topS 25
theorem sc_check_standings : FnScope ["tags", "standings", "at", "standing"] ["tags", "standings"] (defScope s_check_standings) := ⟨rfl, rfl, rfl, by decide +kernel, rfl, by decide +kernel, by decide +kernel⟩
abbrev s_check_number : Stmt := topS 26
theorem sc_check_number : FnScope ["number", "most"] ["number", "most"] (defScope s_check_number) := ⟨rfl, rfl, rfl, by decide +kernel, rfl, by decide +kernel, by decide +kernel⟩
abbrev s_no_ways : Stmt := topS 28
theorem sc_no_ways : FnScope ["tags"] ["tags"] (defScope s_no_ways) := ⟨rfl, rfl, rfl, by decide +kernel, rfl, by decide +kernel, by decide +kernel⟩
abbrev s_walked : Stmt := topS 29
theorem sc_walked : FnScope ["tags", "standings", "word", "at", "many", "tag", "way"] ["tags", "standings", "word"] (defScope s_walked) := ⟨rfl, rfl, rfl, by decide +kernel, rfl, by decide +kernel, by decide +kernel⟩
abbrev s_made : Stmt := topS 30
theorem sc_made : FnScope ["tags", "standings", "subject", "at", "many"] ["tags", "standings", "subject"] (defScope s_made) := ⟨rfl, rfl, rfl, by decide +kernel, rfl, by decide +kernel, by decide +kernel⟩
abbrev s_is_settled_at : Stmt := topS 31
theorem sc_is_settled_at : FnScope ["standing", "way"] ["standing"] (defScope s_is_settled_at) := ⟨rfl, rfl, rfl, by decide +kernel, rfl, by decide +kernel, by decide +kernel⟩
abbrev s_is_made_at : Stmt := topS 32
theorem sc_is_made_at : FnScope ["tags", "standing", "subject", "word", "ways", "stops", "tag", "way"] ["tags", "standing", "subject"] (defScope s_is_made_at) := ⟨rfl, rfl, rfl, by decide +kernel, rfl, by decide +kernel, by decide +kernel⟩
abbrev s_copied : Stmt := topS 33
theorem sc_copied : FnScope ["standings", "word", "ways"] ["standings"] (defScope s_copied) := ⟨rfl, rfl, rfl, by decide +kernel, rfl, by decide +kernel, by decide +kernel⟩
abbrev s_without_needless_ways : Stmt := topS 34
theorem sc_without_needless_ways : FnScope ["tags", "standings", "needed", "settled", "at", "word", "ways", "place", "tag", "way"] ["tags", "standings"] (defScope s_without_needless_ways) := ⟨rfl, rfl, rfl, by decide +kernel, rfl, by decide +kernel, by decide +kernel⟩
abbrev s_numbered : Stmt := topS 35
theorem sc_numbered : FnScope ["marks", "numbers", "told", "mark"] ["marks"] (defScope s_numbered) := ⟨rfl, rfl, rfl, by decide +kernel, rfl, by decide +kernel, by decide +kernel⟩
abbrev s_parted : Stmt := topS 36
theorem sc_parted : FnScope ["classes", "standings", "marks", "number", "_", "ways", "way"] ["classes", "standings"] (defScope s_parted) := ⟨rfl, rfl, rfl, by decide +kernel, rfl, by decide +kernel, by decide +kernel⟩
abbrev s_alike_classes : Stmt := topS 37
theorem sc_alike_classes : FnScope ["standings", "classes", "many", "word", "_"] ["standings"] (defScope s_alike_classes) := ⟨rfl, rfl, rfl, by decide +kernel, rfl, by decide +kernel, by decide +kernel⟩
abbrev s_in_order_met : Stmt := topS 38
theorem sc_in_order_met : FnScope ["standings", "classes", "numbers", "met", "told", "beside", "ways", "way"] ["standings", "classes"] (defScope s_in_order_met) := ⟨rfl, rfl, rfl, by decide +kernel, rfl, by decide +kernel, by decide +kernel⟩
abbrev s_least_form : Stmt := topS 39
theorem sc_least_form : FnScope ["tags", "standings", "needed"] ["tags", "standings"] (defScope s_least_form) := ⟨rfl, rfl, rfl, by decide +kernel, rfl, by decide +kernel, by decide +kernel⟩
abbrev s_moved : Stmt := topS 40
theorem sc_moved : FnScope ["ways", "by", "way"] ["ways", "by"] (defScope s_moved) := ⟨rfl, rfl, rfl, by decide +kernel, rfl, by decide +kernel, by decide +kernel⟩
abbrev s_one_behind_other : Stmt := topS 41
theorem sc_one_behind_other : FnScope ["tags", "first", "second", "standings", "word", "ways", "at", "many", "onward", "joined", "way", "after"] ["tags", "first", "second"] (defScope s_one_behind_other) := ⟨rfl, rfl, rfl, by decide +kernel, rfl, by decide +kernel, by decide +kernel⟩
abbrev s_Eater___init__ : Stmt := inClass (topS 45) 0
theorem sc_Eater___init__ : FnScope ["self", "tags", "standings"] ["self", "tags", "standings"] (defScope s_Eater___init__) := ⟨rfl, rfl, rfl, by decide +kernel, rfl, by decide +kernel, by decide +kernel⟩
abbrev s_Eater___len__ : Stmt := inClass (topS 45) 1
theorem sc_Eater___len__ : FnScope ["self"] ["self"] (defScope s_Eater___len__) := ⟨rfl, rfl, rfl, by decide +kernel, rfl, by decide +kernel, by decide +kernel⟩
abbrev s_Eater___eq__ : Stmt := inClass (topS 45) 2
theorem sc_Eater___eq__ : FnScope ["self", "other"] ["self", "other"] (defScope s_Eater___eq__) := ⟨rfl, rfl, rfl, by decide +kernel, rfl, by decide +kernel, by decide +kernel⟩
abbrev s_Eater___contains__ : Stmt := inClass (topS 45) 3
theorem sc_Eater___contains__ : FnScope ["self", "x", "standing"] ["self", "x"] (defScope s_Eater___contains__) := ⟨rfl, rfl, rfl, by decide +kernel, rfl, by decide +kernel, by decide +kernel⟩
abbrev s_Eater_tags : Stmt := inClass (topS 45) 4
theorem sc_Eater_tags : FnScope ["self"] ["self"] (defScope s_Eater_tags) := ⟨rfl, rfl, rfl, by decide +kernel, rfl, by decide +kernel, by decide +kernel⟩
abbrev s_Eater_standings : Stmt := inClass (topS 45) 5
theorem sc_Eater_standings : FnScope ["self"] ["self"] (defScope s_Eater_standings) := ⟨rfl, rfl, rfl, by decide +kernel, rfl, by decide +kernel, by decide +kernel⟩
abbrev s_Eater_on : Stmt := inClass (topS 45) 6
theorem sc_Eater_on : FnScope ["self", "subject"] ["self", "subject"] (defScope s_Eater_on) := ⟨rfl, rfl, rfl, by decide +kernel, rfl, by decide +kernel, by decide +kernel⟩
abbrev s_Eater_settled : Stmt := inClass (topS 45) 7
theorem sc_Eater_settled : FnScope ["self", "word", "at", "many"] ["self", "word"] (defScope s_Eater_settled) := ⟨rfl, rfl, rfl, by decide +kernel, rfl, by decide +kernel, by decide +kernel⟩
abbrev s_Eater_then : Stmt := inClass (topS 45) 8
theorem sc_Eater_then : FnScope ["self", "other"] ["self", "other"] (defScope s_Eater_then) := ⟨rfl, rfl, rfl, by decide +kernel, rfl, by decide +kernel, by decide +kernel⟩
abbrev s_Eater_power : Stmt := inClass (topS 45) 9
theorem sc_Eater_power : FnScope ["self", "times"] ["self", "times"] (defScope s_Eater_power) := ⟨rfl, rfl, rfl, by decide +kernel, rfl, by decide +kernel, by decide +kernel⟩
abbrev s_eater_of : Stmt := topS 46
theorem sc_eater_of : FnScope ["tags", "form", "eater"] ["tags", "form"] (defScope s_eater_of) := ⟨rfl, rfl, rfl, by decide +kernel, rfl, by decide +kernel, by decide +kernel⟩
abbrev s_small_form : Stmt := topS 47
theorem sc_small_form : FnScope ["form", "word", "_"] ["form"] (defScope s_small_form) := ⟨rfl, rfl, rfl, by decide +kernel, rfl, by decide +kernel, by decide +kernel⟩
abbrev s_check_same_tags : Stmt := topS 48
theorem sc_check_same_tags : FnScope ["one", "other"] ["one", "other"] (defScope s_check_same_tags) := ⟨rfl, rfl, rfl, by decide +kernel, rfl, by decide +kernel, by decide +kernel⟩
abbrev s_powers : Stmt := topS 49
theorem sc_powers : FnScope ["eater", "times", "tags", "told", "_"] ["eater", "times"] (defScope s_powers) := ⟨rfl, rfl, rfl, by decide +kernel, rfl, by decide +kernel, by decide +kernel⟩
abbrev s_is_settled : Stmt := topS 50
theorem sc_is_settled : FnScope ["eater"] ["eater"] (defScope s_is_settled) := ⟨rfl, rfl, rfl, by decide +kernel, rfl, by decide +kernel, by decide +kernel⟩
abbrev s_check_tag : Stmt := topS 53
theorem sc_check_tag : FnScope ["tags", "tag"] ["tags", "tag"] (defScope s_check_tag) := ⟨rfl, rfl, rfl, by decide +kernel, rfl, by decide +kernel, by decide +kernel⟩
abbrev s_check_some : Stmt := topS 54
theorem sc_check_some : FnScope ["tags", "some", "at", "tag"] ["tags", "some"] (defScope s_check_some) := ⟨rfl, rfl, rfl, by decide +kernel, rfl, by decide +kernel, by decide +kernel⟩
abbrev s_is_pair : Stmt := topS 55
theorem sc_is_pair : FnScope ["tags", "x"] ["tags", "x"] (defScope s_is_pair) := ⟨rfl, rfl, rfl, by decide +kernel, rfl, by decide +kernel, by decide +kernel⟩
abbrev s_check_pairs : Stmt := topS 56
theorem sc_check_pairs : FnScope ["tags", "pairs", "firsts", "at", "pair"] ["tags", "pairs"] (defScope s_check_pairs) := ⟨rfl, rfl, rfl, by decide +kernel, rfl, by decide +kernel, by decide +kernel⟩
abbrev s_ways_for : Stmt := topS 57
theorem sc_ways_for : FnScope ["tags", "some", "to", "tag"] ["tags", "some", "to"] (defScope s_ways_for) := ⟨rfl, rfl, rfl, by decide +kernel, rfl, by decide +kernel, by decide +kernel⟩
abbrev s_keep : Stmt := topS 58
theorem sc_keep : FnScope ["tags"] ["tags"] (defScope s_keep) := ⟨rfl, rfl, rfl, by decide +kernel, rfl, by decide +kernel, by decide +kernel⟩
abbrev s_put : Stmt := topS 59
theorem sc_put : FnScope ["tags", "word"] ["tags", "word"] (defScope s_put) := ⟨rfl, rfl, rfl, by decide +kernel, rfl, by decide +kernel, by decide +kernel⟩
abbrev s_strip : Stmt := topS 60
theorem sc_strip : FnScope ["tags", "some", "most", "standings", "taken"] ["tags", "some", "most"] (defScope s_strip) := ⟨rfl, rfl, rfl, by decide +kernel, rfl, by decide +kernel, by decide +kernel⟩
abbrev s_once : Stmt := topS 61
theorem sc_once : FnScope ["tags", "tag"] ["tags", "tag"] (defScope s_once) := ⟨rfl, rfl, rfl, by decide +kernel, rfl, by decide +kernel, by decide +kernel⟩
abbrev s_exchange : Stmt := topS 62
theorem sc_exchange : FnScope ["tags", "pairs", "ways", "standings", "tag", "another"] ["tags", "pairs"] (defScope s_exchange) := ⟨rfl, rfl, rfl, by decide +kernel, rfl, by decide +kernel, by decide +kernel⟩
abbrev s_press : Stmt := topS 63
theorem sc_press : FnScope ["tags", "tag", "most", "standings", "left"] ["tags", "tag", "most"] (defScope s_press) := ⟨rfl, rfl, rfl, by decide +kernel, rfl, by decide +kernel, by decide +kernel⟩
abbrev s__law_mixed : Stmt := topS 65
theorem sc__law_mixed : FnScope ["cell", "k", "figure"] ["cell", "k"] (defScope s__law_mixed) := ⟨rfl, rfl, rfl, by decide +kernel, rfl, by decide +kernel, by decide +kernel⟩
abbrev s__law_pile : Stmt := topS 66
theorem sc__law_pile : FnScope ["script", "k", "cell", "digits"] ["script", "k"] (defScope s__law_pile) := ⟨rfl, rfl, rfl, by decide +kernel, rfl, by decide +kernel, by decide +kernel⟩
abbrev s__law_take : Stmt := topS 67
theorem sc__law_take : FnScope ["pile", "many", "digit"] ["pile", "many"] (defScope s__law_take) := ⟨rfl, rfl, rfl, by decide +kernel, rfl, by decide +kernel, by decide +kernel⟩
abbrev s__law_tags : Stmt := topS 68
theorem sc__law_tags : FnScope ["pile", "many", "letters", "stem", "at", "shift", "pace", "plain", "tail", "some", "k", "name"] ["pile", "many"] (defScope s__law_tags) := ⟨rfl, rfl, rfl, by decide +kernel, rfl, by decide +kernel, by decide +kernel⟩
abbrev s__law_subject : Stmt := topS 69
theorem sc__law_subject : FnScope ["pile", "tags", "most", "found", "turn"] ["pile", "tags", "most"] (defScope s__law_subject) := ⟨rfl, rfl, rfl, by decide +kernel, rfl, by decide +kernel, by decide +kernel⟩
abbrev s__law_stripped : Stmt := topS 70
theorem sc__law_stripped : FnScope ["subject", "some", "most", "count"] ["subject", "some", "most"] (defScope s__law_stripped) := ⟨rfl, rfl, rfl, by decide +kernel, rfl, by decide +kernel, by decide +kernel⟩
abbrev s__law_pressed : Stmt := topS 71
theorem sc__law_pressed : FnScope ["subject", "tag", "most", "count"] ["subject", "tag", "most"] (defScope s__law_pressed) := ⟨rfl, rfl, rfl, by decide +kernel, rfl, by decide +kernel, by decide +kernel⟩
abbrev s__law_exchanged : Stmt := topS 72
theorem sc__law_exchanged : FnScope ["subject", "pairs", "old", "new"] ["subject", "pairs"] (defScope s__law_exchanged) := ⟨rfl, rfl, rfl, by decide +kernel, rfl, by decide +kernel, by decide +kernel⟩
abbrev s__law_kept_right : Stmt := topS 73
theorem sc__law_kept_right : FnScope ["pile", "tags", "names", "word", "some", "tag", "pairs", "often", "made_v", "due", "lot", "eater", "other"] ["pile", "tags"] (defScope s__law_kept_right) := ⟨rfl, rfl, rfl, by decide +kernel, rfl, by decide +kernel, by decide +kernel⟩
abbrev s__law_ones_right : Stmt := topS 74
theorem sc__law_ones_right : FnScope ["pile", "tags", "subject", "word", "tag", "some", "most", "often", "pairs", "before", "made_v", "due", "sizes", "moved_v", "old", "new", "eater"] ["pile", "tags", "subject"] (defScope s__law_ones_right) := ⟨rfl, rfl, rfl, by decide +kernel, rfl, by decide +kernel, by decide +kernel⟩
abbrev s_law : Stmt := topS 75
theorem sc_law : FnScope ["script", "k", "pile", "tags", "turn", "subject"] ["script"] (defScope s_law) := ⟨rfl, rfl, rfl, by decide +kernel, rfl, by decide +kernel, by decide +kernel⟩
structure TX (K : PySem.W.Frag) (mg : Str → Option Value) : Type where
  n_abs : mg "abs" = none
  n_all : mg "all" = none
  n_any : mg "any" = none
  n_bool : mg "bool" = none
  n_enumerate : mg "enumerate" = none
  n_int : mg "int" = none
  n_isinstance : mg "isinstance" = none
  n_len : mg "len" = none
  n_list : mg "list" = none
  n_max : mg "max" = none
  n_range : mg "range" = none
  n_repr : mg "repr" = none
  n_set : mg "set" = none
  n_sorted : mg "sorted" = none
  n_str : mg "str" = none
  n_tuple : mg "tuple" = none
  n_zip : mg "zip" = none
  c_LETTERS : ∃ u, mg "LETTERS" = some u ∧ RelV (.str "abcdefghijklmnopqrstuvwxyz") u
  c_MOST_LETTERS : ∃ u, mg "MOST_LETTERS" = some u ∧ RelV (.int 8) u
  c_MOST_TAGS : ∃ u, mg "MOST_TAGS" = some u ∧ RelV (.int 6) u
  c_MOST_STANDINGS : ∃ u, mg "MOST_STANDINGS" = some u ∧ RelV (.int 30) u
  c_LONGEST_WORD : ∃ u, mg "LONGEST_WORD" = some u ∧ RelV (.int 8) u
  c_LONGEST_SUBJECT : ∃ u, mg "LONGEST_SUBJECT" = some u ∧ RelV (.int 200) u
  c_MOST_TIMES : ∃ u, mg "MOST_TIMES" = some u ∧ RelV (.int 12) u
  c_LARGEST : ∃ u, mg "LARGEST" = some u ∧ RelV (.int 200) u
  c_LARGEST_MOST : ∃ u, mg "LARGEST_MOST" = some u ∧ RelV (.int 20) u
  d_is_number : QB.TopAt K mg "is_number" s_is_number ["x", "least", "most"]
  d_is_list : QB.TopAt K mg "is_list" s_is_list ["x", "least", "most"]
  d_is_name : QB.TopAt K mg "is_name" s_is_name ["x"]
  d_is_tag : QB.TopAt K mg "is_tag" s_is_tag ["tags", "x"]
  d_is_subject : QB.TopAt K mg "is_subject" s_is_subject ["tags", "x"]
  d_is_standing : QB.TopAt K mg "is_standing" s_is_standing ["tags", "many", "x"]
  d_check_tags : QB.TopAt K mg "check_tags" s_check_tags ["tags"]
  d_check_word : QB.TopAt K mg "check_word" s_check_word ["tags", "word", "most"]
  d_check_standings : QB.TopAt K mg "check_standings" s_check_standings ["tags", "standings"]
  d_check_number : QB.TopAt K mg "check_number" s_check_number ["number", "most"]
  d_no_ways : QB.TopAt K mg "no_ways" s_no_ways ["tags"]
  d_walked : QB.TopAt K mg "walked" s_walked ["tags", "standings", "word"]
  d_made : QB.TopAt K mg "made" s_made ["tags", "standings", "subject"]
  d_is_settled_at : QB.TopAt K mg "is_settled_at" s_is_settled_at ["standing"]
  d_is_made_at : QB.TopAt K mg "is_made_at" s_is_made_at ["tags", "standing", "subject"]
  d_copied : QB.TopAt K mg "copied" s_copied ["standings"]
  d_without_needless_ways : QB.TopAt K mg "without_needless_ways" s_without_needless_ways ["tags", "standings"]
  d_numbered : QB.TopAt K mg "numbered" s_numbered ["marks"]
  d_parted : QB.TopAt K mg "parted" s_parted ["classes", "standings"]
  d_alike_classes : QB.TopAt K mg "alike_classes" s_alike_classes ["standings"]
  d_in_order_met : QB.TopAt K mg "in_order_met" s_in_order_met ["standings", "classes"]
  d_least_form : QB.TopAt K mg "least_form" s_least_form ["tags", "standings"]
  d_moved : QB.TopAt K mg "moved" s_moved ["ways", "by"]
  d_one_behind_other : QB.TopAt K mg "one_behind_other" s_one_behind_other ["tags", "first", "second"]
  d_eater_of : QB.TopAt K mg "eater_of" s_eater_of ["tags", "form"]
  d_small_form : QB.TopAt K mg "small_form" s_small_form ["form"]
  d_check_same_tags : QB.TopAt K mg "check_same_tags" s_check_same_tags ["one", "other"]
  d_powers : QB.TopAt K mg "powers" s_powers ["eater", "times"]
  d_is_settled : QB.TopAt K mg "is_settled" s_is_settled ["eater"]
  d_check_tag : QB.TopAt K mg "check_tag" s_check_tag ["tags", "tag"]
  d_check_some : QB.TopAt K mg "check_some" s_check_some ["tags", "some"]
  d_is_pair : QB.TopAt K mg "is_pair" s_is_pair ["tags", "x"]
  d_check_pairs : QB.TopAt K mg "check_pairs" s_check_pairs ["tags", "pairs"]
  d_ways_for : QB.TopAt K mg "ways_for" s_ways_for ["tags", "some", "to"]
  d_keep : QB.TopAt K mg "keep" s_keep ["tags"]
  d_put : QB.TopAt K mg "put" s_put ["tags", "word"]
  d_strip : QB.TopAt K mg "strip" s_strip ["tags", "some", "most"]
  d_once : QB.TopAt K mg "once" s_once ["tags", "tag"]
  d_exchange : QB.TopAt K mg "exchange" s_exchange ["tags", "pairs"]
  d_press : QB.TopAt K mg "press" s_press ["tags", "tag", "most"]
  d__law_mixed : QB.TopAt K mg "_law_mixed" s__law_mixed ["cell", "k"]
  d__law_pile : QB.TopAt K mg "_law_pile" s__law_pile ["script", "k"]
  d__law_take : QB.TopAt K mg "_law_take" s__law_take ["pile", "many"]
  d__law_tags : QB.TopAt K mg "_law_tags" s__law_tags ["pile", "many"]
  d__law_subject : QB.TopAt K mg "_law_subject" s__law_subject ["pile", "tags", "most"]
  d__law_stripped : QB.TopAt K mg "_law_stripped" s__law_stripped ["subject", "some", "most"]
  d__law_pressed : QB.TopAt K mg "_law_pressed" s__law_pressed ["subject", "tag", "most"]
  d__law_exchanged : QB.TopAt K mg "_law_exchanged" s__law_exchanged ["subject", "pairs"]
  d__law_kept_right : QB.TopAt K mg "_law_kept_right" s__law_kept_right ["pile", "tags"]
  d__law_ones_right : QB.TopAt K mg "_law_ones_right" s__law_ones_right ["pile", "tags", "subject"]
  d_law : QB.TopAt K mg "law" s_law ["script"]
  lam_c : Addr
  lam_P : Addr
  lam_F : QB.FunC K "without_needless_ways" "without_needless_ways" s_without_needless_ways d_without_needless_ways.a d_without_needless_ways.fd lam_c
  e_TagError : Addr
  me_TagError : mg "TagError" = some (.ref e_TagError)
  e_InvalidTags : Addr
  me_InvalidTags : mg "InvalidTags" = some (.ref e_InvalidTags)
  d_InvalidTags___init__ : QB.DefAt K "__init__" "InvalidTags.__init__" s_InvalidTags___init__ ["self", "index"]
  xt_InvalidTags : QX.ExcT K e_InvalidTags d_InvalidTags___init__.a "index"
  e_InvalidSubject : Addr
  me_InvalidSubject : mg "InvalidSubject" = some (.ref e_InvalidSubject)
  d_InvalidSubject___init__ : QB.DefAt K "__init__" "InvalidSubject.__init__" s_InvalidSubject___init__ ["self", "index"]
  xt_InvalidSubject : QX.ExcT K e_InvalidSubject d_InvalidSubject___init__.a "index"
  e_InvalidEater : Addr
  me_InvalidEater : mg "InvalidEater" = some (.ref e_InvalidEater)
  d_InvalidEater___init__ : QB.DefAt K "__init__" "InvalidEater.__init__" s_InvalidEater___init__ ["self", "index"]
  xt_InvalidEater : QX.ExcT K e_InvalidEater d_InvalidEater___init__.a "index"
  e_InvalidTag : Addr
  me_InvalidTag : mg "InvalidTag" = some (.ref e_InvalidTag)
  d_InvalidTag___init__ : QB.DefAt K "__init__" "InvalidTag.__init__" s_InvalidTag___init__ ["self", "tag"]
  xt_InvalidTag : QX.ExcT K e_InvalidTag d_InvalidTag___init__.a "tag"
  e_InvalidPairs : Addr
  me_InvalidPairs : mg "InvalidPairs" = some (.ref e_InvalidPairs)
  d_InvalidPairs___init__ : QB.DefAt K "__init__" "InvalidPairs.__init__" s_InvalidPairs___init__ ["self", "index"]
  xt_InvalidPairs : QX.ExcT K e_InvalidPairs d_InvalidPairs___init__.a "index"
  e_InvalidNumber : Addr
  me_InvalidNumber : mg "InvalidNumber" = some (.ref e_InvalidNumber)
  d_InvalidNumber___init__ : QB.DefAt K "__init__" "InvalidNumber.__init__" s_InvalidNumber___init__ ["self", "number"]
  xt_InvalidNumber : QX.ExcT K e_InvalidNumber d_InvalidNumber___init__.a "number"
  e_UnlikeTags : Addr
  me_UnlikeTags : mg "UnlikeTags" = some (.ref e_UnlikeTags)
  e_TooMany : Addr
  me_TooMany : mg "TooMany" = some (.ref e_TooMany)
  d_TooMany___init__ : QB.DefAt K "__init__" "TooMany.__init__" s_TooMany___init__ ["self", "limit"]
  xt_TooMany : QX.ExcT K e_TooMany d_TooMany___init__.a "limit"
  ex_InvalidTags : PySem.W.exmOne K (.ref e_InvalidTags) (.ref e_TagError) = some true
  kv_InvalidTags : PySem.W.kitOne K (.ref e_InvalidTags) (.type "ValueError") = some true
  ki_InvalidTags_TagError : PySem.W.kitOne K (.ref e_InvalidTags) (.ref e_TagError) = some true
  ki_InvalidTags_InvalidTags : PySem.W.kitOne K (.ref e_InvalidTags) (.ref e_InvalidTags) = some true
  ki_InvalidTags_InvalidSubject : PySem.W.kitOne K (.ref e_InvalidTags) (.ref e_InvalidSubject) = some false
  ki_InvalidTags_InvalidEater : PySem.W.kitOne K (.ref e_InvalidTags) (.ref e_InvalidEater) = some false
  ki_InvalidTags_InvalidTag : PySem.W.kitOne K (.ref e_InvalidTags) (.ref e_InvalidTag) = some false
  ki_InvalidTags_InvalidPairs : PySem.W.kitOne K (.ref e_InvalidTags) (.ref e_InvalidPairs) = some false
  ki_InvalidTags_InvalidNumber : PySem.W.kitOne K (.ref e_InvalidTags) (.ref e_InvalidNumber) = some false
  ki_InvalidTags_UnlikeTags : PySem.W.kitOne K (.ref e_InvalidTags) (.ref e_UnlikeTags) = some false
  ki_InvalidTags_TooMany : PySem.W.kitOne K (.ref e_InvalidTags) (.ref e_TooMany) = some false
  ex_InvalidSubject : PySem.W.exmOne K (.ref e_InvalidSubject) (.ref e_TagError) = some true
  kv_InvalidSubject : PySem.W.kitOne K (.ref e_InvalidSubject) (.type "ValueError") = some true
  ki_InvalidSubject_TagError : PySem.W.kitOne K (.ref e_InvalidSubject) (.ref e_TagError) = some true
  ki_InvalidSubject_InvalidTags : PySem.W.kitOne K (.ref e_InvalidSubject) (.ref e_InvalidTags) = some false
  ki_InvalidSubject_InvalidSubject : PySem.W.kitOne K (.ref e_InvalidSubject) (.ref e_InvalidSubject) = some true
  ki_InvalidSubject_InvalidEater : PySem.W.kitOne K (.ref e_InvalidSubject) (.ref e_InvalidEater) = some false
  ki_InvalidSubject_InvalidTag : PySem.W.kitOne K (.ref e_InvalidSubject) (.ref e_InvalidTag) = some false
  ki_InvalidSubject_InvalidPairs : PySem.W.kitOne K (.ref e_InvalidSubject) (.ref e_InvalidPairs) = some false
  ki_InvalidSubject_InvalidNumber : PySem.W.kitOne K (.ref e_InvalidSubject) (.ref e_InvalidNumber) = some false
  ki_InvalidSubject_UnlikeTags : PySem.W.kitOne K (.ref e_InvalidSubject) (.ref e_UnlikeTags) = some false
  ki_InvalidSubject_TooMany : PySem.W.kitOne K (.ref e_InvalidSubject) (.ref e_TooMany) = some false
  ex_InvalidEater : PySem.W.exmOne K (.ref e_InvalidEater) (.ref e_TagError) = some true
  kv_InvalidEater : PySem.W.kitOne K (.ref e_InvalidEater) (.type "ValueError") = some true
  ki_InvalidEater_TagError : PySem.W.kitOne K (.ref e_InvalidEater) (.ref e_TagError) = some true
  ki_InvalidEater_InvalidTags : PySem.W.kitOne K (.ref e_InvalidEater) (.ref e_InvalidTags) = some false
  ki_InvalidEater_InvalidSubject : PySem.W.kitOne K (.ref e_InvalidEater) (.ref e_InvalidSubject) = some false
  ki_InvalidEater_InvalidEater : PySem.W.kitOne K (.ref e_InvalidEater) (.ref e_InvalidEater) = some true
  ki_InvalidEater_InvalidTag : PySem.W.kitOne K (.ref e_InvalidEater) (.ref e_InvalidTag) = some false
  ki_InvalidEater_InvalidPairs : PySem.W.kitOne K (.ref e_InvalidEater) (.ref e_InvalidPairs) = some false
  ki_InvalidEater_InvalidNumber : PySem.W.kitOne K (.ref e_InvalidEater) (.ref e_InvalidNumber) = some false
  ki_InvalidEater_UnlikeTags : PySem.W.kitOne K (.ref e_InvalidEater) (.ref e_UnlikeTags) = some false
  ki_InvalidEater_TooMany : PySem.W.kitOne K (.ref e_InvalidEater) (.ref e_TooMany) = some false
  ex_InvalidTag : PySem.W.exmOne K (.ref e_InvalidTag) (.ref e_TagError) = some true
  kv_InvalidTag : PySem.W.kitOne K (.ref e_InvalidTag) (.type "ValueError") = some true
  ki_InvalidTag_TagError : PySem.W.kitOne K (.ref e_InvalidTag) (.ref e_TagError) = some true
  ki_InvalidTag_InvalidTags : PySem.W.kitOne K (.ref e_InvalidTag) (.ref e_InvalidTags) = some false
  ki_InvalidTag_InvalidSubject : PySem.W.kitOne K (.ref e_InvalidTag) (.ref e_InvalidSubject) = some false
  ki_InvalidTag_InvalidEater : PySem.W.kitOne K (.ref e_InvalidTag) (.ref e_InvalidEater) = some false
  ki_InvalidTag_InvalidTag : PySem.W.kitOne K (.ref e_InvalidTag) (.ref e_InvalidTag) = some true
  ki_InvalidTag_InvalidPairs : PySem.W.kitOne K (.ref e_InvalidTag) (.ref e_InvalidPairs) = some false
  ki_InvalidTag_InvalidNumber : PySem.W.kitOne K (.ref e_InvalidTag) (.ref e_InvalidNumber) = some false
  ki_InvalidTag_UnlikeTags : PySem.W.kitOne K (.ref e_InvalidTag) (.ref e_UnlikeTags) = some false
  ki_InvalidTag_TooMany : PySem.W.kitOne K (.ref e_InvalidTag) (.ref e_TooMany) = some false
  ex_InvalidPairs : PySem.W.exmOne K (.ref e_InvalidPairs) (.ref e_TagError) = some true
  kv_InvalidPairs : PySem.W.kitOne K (.ref e_InvalidPairs) (.type "ValueError") = some true
  ki_InvalidPairs_TagError : PySem.W.kitOne K (.ref e_InvalidPairs) (.ref e_TagError) = some true
  ki_InvalidPairs_InvalidTags : PySem.W.kitOne K (.ref e_InvalidPairs) (.ref e_InvalidTags) = some false
  ki_InvalidPairs_InvalidSubject : PySem.W.kitOne K (.ref e_InvalidPairs) (.ref e_InvalidSubject) = some false
  ki_InvalidPairs_InvalidEater : PySem.W.kitOne K (.ref e_InvalidPairs) (.ref e_InvalidEater) = some false
  ki_InvalidPairs_InvalidTag : PySem.W.kitOne K (.ref e_InvalidPairs) (.ref e_InvalidTag) = some false
  ki_InvalidPairs_InvalidPairs : PySem.W.kitOne K (.ref e_InvalidPairs) (.ref e_InvalidPairs) = some true
  ki_InvalidPairs_InvalidNumber : PySem.W.kitOne K (.ref e_InvalidPairs) (.ref e_InvalidNumber) = some false
  ki_InvalidPairs_UnlikeTags : PySem.W.kitOne K (.ref e_InvalidPairs) (.ref e_UnlikeTags) = some false
  ki_InvalidPairs_TooMany : PySem.W.kitOne K (.ref e_InvalidPairs) (.ref e_TooMany) = some false
  ex_InvalidNumber : PySem.W.exmOne K (.ref e_InvalidNumber) (.ref e_TagError) = some true
  kv_InvalidNumber : PySem.W.kitOne K (.ref e_InvalidNumber) (.type "ValueError") = some true
  ki_InvalidNumber_TagError : PySem.W.kitOne K (.ref e_InvalidNumber) (.ref e_TagError) = some true
  ki_InvalidNumber_InvalidTags : PySem.W.kitOne K (.ref e_InvalidNumber) (.ref e_InvalidTags) = some false
  ki_InvalidNumber_InvalidSubject : PySem.W.kitOne K (.ref e_InvalidNumber) (.ref e_InvalidSubject) = some false
  ki_InvalidNumber_InvalidEater : PySem.W.kitOne K (.ref e_InvalidNumber) (.ref e_InvalidEater) = some false
  ki_InvalidNumber_InvalidTag : PySem.W.kitOne K (.ref e_InvalidNumber) (.ref e_InvalidTag) = some false
  ki_InvalidNumber_InvalidPairs : PySem.W.kitOne K (.ref e_InvalidNumber) (.ref e_InvalidPairs) = some false
  ki_InvalidNumber_InvalidNumber : PySem.W.kitOne K (.ref e_InvalidNumber) (.ref e_InvalidNumber) = some true
  ki_InvalidNumber_UnlikeTags : PySem.W.kitOne K (.ref e_InvalidNumber) (.ref e_UnlikeTags) = some false
  ki_InvalidNumber_TooMany : PySem.W.kitOne K (.ref e_InvalidNumber) (.ref e_TooMany) = some false
  ex_UnlikeTags : PySem.W.exmOne K (.ref e_UnlikeTags) (.ref e_TagError) = some true
  kv_UnlikeTags : PySem.W.kitOne K (.ref e_UnlikeTags) (.type "ValueError") = some true
  ki_UnlikeTags_TagError : PySem.W.kitOne K (.ref e_UnlikeTags) (.ref e_TagError) = some true
  ki_UnlikeTags_InvalidTags : PySem.W.kitOne K (.ref e_UnlikeTags) (.ref e_InvalidTags) = some false
  ki_UnlikeTags_InvalidSubject : PySem.W.kitOne K (.ref e_UnlikeTags) (.ref e_InvalidSubject) = some false
  ki_UnlikeTags_InvalidEater : PySem.W.kitOne K (.ref e_UnlikeTags) (.ref e_InvalidEater) = some false
  ki_UnlikeTags_InvalidTag : PySem.W.kitOne K (.ref e_UnlikeTags) (.ref e_InvalidTag) = some false
  ki_UnlikeTags_InvalidPairs : PySem.W.kitOne K (.ref e_UnlikeTags) (.ref e_InvalidPairs) = some false
  ki_UnlikeTags_InvalidNumber : PySem.W.kitOne K (.ref e_UnlikeTags) (.ref e_InvalidNumber) = some false
  ki_UnlikeTags_UnlikeTags : PySem.W.kitOne K (.ref e_UnlikeTags) (.ref e_UnlikeTags) = some true
  ki_UnlikeTags_TooMany : PySem.W.kitOne K (.ref e_UnlikeTags) (.ref e_TooMany) = some false
  ex_TooMany : PySem.W.exmOne K (.ref e_TooMany) (.ref e_TagError) = some true
  kv_TooMany : PySem.W.kitOne K (.ref e_TooMany) (.type "ValueError") = some true
  ki_TooMany_TagError : PySem.W.kitOne K (.ref e_TooMany) (.ref e_TagError) = some true
  ki_TooMany_InvalidTags : PySem.W.kitOne K (.ref e_TooMany) (.ref e_InvalidTags) = some false
  ki_TooMany_InvalidSubject : PySem.W.kitOne K (.ref e_TooMany) (.ref e_InvalidSubject) = some false
  ki_TooMany_InvalidEater : PySem.W.kitOne K (.ref e_TooMany) (.ref e_InvalidEater) = some false
  ki_TooMany_InvalidTag : PySem.W.kitOne K (.ref e_TooMany) (.ref e_InvalidTag) = some false
  ki_TooMany_InvalidPairs : PySem.W.kitOne K (.ref e_TooMany) (.ref e_InvalidPairs) = some false
  ki_TooMany_InvalidNumber : PySem.W.kitOne K (.ref e_TooMany) (.ref e_InvalidNumber) = some false
  ki_TooMany_UnlikeTags : PySem.W.kitOne K (.ref e_TooMany) (.ref e_UnlikeTags) = some false
  ki_TooMany_TooMany : PySem.W.kitOne K (.ref e_TooMany) (.ref e_TooMany) = some true
  c_Eater : Addr
  m_Eater : mg "Eater" = some (.ref c_Eater)
  cl_Eater : Cls K c_Eater
  oc_Eater : QO.OwnC K c_Eater
  d_Eater___init__ : QB.DefAt K "__init__" "Eater.__init__" s_Eater___init__ ["self", "tags", "standings"]
  d_Eater___len__ : QB.DefAt K "__len__" "Eater.__len__" s_Eater___len__ ["self"]
  h_Eater___len__ : Meth K c_Eater "__len__" d_Eater___len__.a
  d_Eater___eq__ : QB.DefAt K "__eq__" "Eater.__eq__" s_Eater___eq__ ["self", "other"]
  h_Eater___eq__ : Meth K c_Eater "__eq__" d_Eater___eq__.a
  d_Eater___contains__ : QB.DefAt K "__contains__" "Eater.__contains__" s_Eater___contains__ ["self", "x"]
  h_Eater___contains__ : Meth K c_Eater "__contains__" d_Eater___contains__.a
  d_Eater_tags : QB.DefAt K "tags" "Eater.tags" s_Eater_tags ["self"]
  h_Eater_tags : Meth K c_Eater "tags" d_Eater_tags.a
  d_Eater_standings : QB.DefAt K "standings" "Eater.standings" s_Eater_standings ["self"]
  h_Eater_standings : Meth K c_Eater "standings" d_Eater_standings.a
  d_Eater_on : QB.DefAt K "on" "Eater.on" s_Eater_on ["self", "subject"]
  h_Eater_on : Meth K c_Eater "on" d_Eater_on.a
  d_Eater_settled : QB.DefAt K "settled" "Eater.settled" s_Eater_settled ["self", "word"]
  h_Eater_settled : Meth K c_Eater "settled" d_Eater_settled.a
  d_Eater_then : QB.DefAt K "then" "Eater.then" s_Eater_then ["self", "other"]
  h_Eater_then : Meth K c_Eater "then" d_Eater_then.a
  d_Eater_power : QB.DefAt K "power" "Eater.power" s_Eater_power ["self", "times"]
  h_Eater_power : Meth K c_Eater "power" d_Eater_power.a
  mk_Eater : Mk K c_Eater d_Eater___init__.a
  na_Eater__standings : NoAttr K c_Eater "_standings"
  na_Eater__tags : NoAttr K c_Eater "_tags"
section
variable {P : Program} {w : World} {K : PySem.W.Frag} {mg : Str → Option Value} {base : Heap}

def spWalked (K : PySem.W.Frag) : Sp := fun vs H Q _ => ∃ (a b c : Addr) (tags : List Str) (F : Form) (wd : Word), vs = [.ref a, .ref b, .ref c] ∧ WordAt H a tags ∧ FormAt H b F ∧ WordAt H c wd ∧ Good tags F ∧ (∀ t ∈ wd, t ∈ tags) ∧ wd.length ≤ 100000 ∧
  ∀ (p : Addr) (H' : Hp), Same H H' → H p = none → H' p = some (.tup [.int ((walk tags F wd).1 : Int), .int ((walk tags F wd).2 : Int)]) → Q (.ref p) H'
theorem ok_walked (X : TX K mg) : FnOk P w K mg base CX0 1 X.d_walked.a X.d_walked.fd ["tags", "standings", "word"] (spWalked K) := by
  have nd := sc_walked.nd
  refine X.d_walked.F.ok sc_walked (fun vs H Q E h => ?_) (fun cdv A outer s H vs Q E hr h => ?_)
  · obtain ⟨a, b, c, tags, F, wd, rfl, _⟩ := h
    rfl
  · obtain ⟨a, b, c, tags, F, wd, rfl, hT, hF, hw, g, hin, hz, k⟩ := h
    refine ⟨_, (pss_cons (ps_set (i := 3) nd rfl (Or.inl rfl) pe_int) (pss_cons (ps_for PassesOwn.never rfl (QB.pi_enumK K (by rfl) X.n_enumerate (pa_cons (pv 2) pa_nil)) (pg_tup (by rfl) (pgs_cons (pg_name (i := 4) nd rfl (Or.inl rfl)) (pgs_cons (pg_name (i := 5) nd rfl (Or.inl rfl)) (pgs_nil)))) (pss_cons (ps_set (i := 6) nd rfl (Or.inl rfl) (pe_ix (QB.ix_listK K) (pe_ix (QB.ix_tupK K) (pe_ix (QB.ix_listK K) (pv 1) (pv 3) (fun _ _ => rfl)) pe_int (fun _ _ => rfl)) (QB.pe_bmK K PySem.F.plainAttrs_list PySem.F.slot_list_index PySem.F.type_list_index (QB.mt_indexK K) (pv 0) (pa_cons (pv 5) pa_nil)) (fun _ _ => rfl))) (pss_cons (ps_if (pt_cmpR op_isN (pv 6) pe_non (nomark _)) (pss_one (ps_ret (pe_tup (pa_cons (pv 3) (pa_cons (pv 4) pa_nil))))) pss_nil) (pss_one (ps_set (i := 3) nd rfl (Or.inl rfl) (pv 6)))))) (pss_one (ps_ret (pe_tup (pa_cons (pv 3) (pa_cons (pe_callB (QB.call_lenK K) (by rfl) X.n_len PySem.boot_len (pa_cons (pv 2) pa_nil)) pa_nil))))))), ?_⟩
    try dsimp only [Cx.nox, Cx.wish, cxOf]
    refine ⟨_, rfl, _, _, rfl, SqL.of hw, ?_⟩
    refine for_it (walk_enumW (K := K) (a := c) (w := wd)) (fun i σ H' => ∃ (at_ : Nat) (v4 v5 v6 : Option V), σ = [some (.ref a), some (.ref b), some (.ref c), some (.int (at_ : Int)), v4, v5, v6] ∧ Same H H' ∧ at_ < F.length ∧ walkFrom tags F at_ i (wd.drop i) = walk tags F wd)
      ⟨0, none, none, none, rfl, Same.refl H, g.pos, rfl⟩ (fun i σ H' _ ⟨_, _, _, _, _, s1, _⟩ => Same.word s1 hw) ?_ ?_
    · rintro i v σ H1 H2 hi ⟨at_, v4, v5, v6, rfl, s1, hat, hwk⟩ ⟨tp, x, hx, ntp, rfl, rfl⟩
      have s2 : Same H (upd H1 tp (.tup [.int (i : Int), .str x])) := Same.new s1 ntp
      have eF : F[at_]? = some F[at_] := by simp [hat]
      have hxt : x ∈ tags := hin x (List.mem_of_getElem? hx)
      obtain ⟨vs, t, p1, p2, f1, f2, f3, f4, f5, f6⟩ := (Same.form s2 hF).at eF
      have ed : wd.drop i = x :: wd.drop (i + 1) := (List.drop_eq_getElem_cons hi).trans (by rw [List.getElem?_eq_getElem hi] at hx; rw [Option.some.inj hx])
      rw [ed] at hwk
      unfold walkFrom at hwk
      rw [wayAt_of eF] at hwk
      refine ⟨tp, _, rfl, SqT.of upd_same, rfl, _, _, rfl, _, _, rfl, rfl, ?_⟩
      refine ⟨_, rfl, _, rfl, _, _, _, _, rfl, rfl, SqL.of f1, atI_nat f3, _, _, _, _, rfl, rfl, SqT.of f4, rfl, ?_⟩
      refine ⟨_, rfl, .inl ⟨rfl, _, SqL.of (Same.word s2 hT)⟩, _, rfl, ?_⟩
      dsimp only [tNil]
      refine index_word (Same.word s2 hT) hxt ?_
      refine ⟨_, _, _, _, rfl, rfl, SqL.of f6, atI_nat (vWs_get (g.way eF hxt)), ?_⟩
      refine ⟨_, rfl, rfl, _, rfl, ?_⟩
      cases e : way tags F[at_] x with
      | none =>
        rw [e] at hwk
        refine iteT ?_
        refine ⟨_, rfl, _, rfl, (by show 2 ≤ sizeLine; decide), fun p hp => ?_⟩
        refine k p _ (Same.new s2 hp) (Same.free s2 hp) ?_
        rw [← hwk]
        exact upd_same
      | some n =>
        rw [e] at hwk
        refine iteF ?_
        exact ⟨_, rfl, n, _, _, _, rfl, s2, g.wayLt eF hxt e, hwk⟩
    · rintro σ H1 ⟨at_, v4, v5, v6, rfl, s1, hat, hwk⟩
      rw [List.drop_length] at hwk
      refine ⟨_, rfl, _, rfl, _, _, rfl, .inl (SqL.of (Same.word s1 hw)), (by show 2 ≤ sizeLine; decide), fun p hp => ?_⟩
      refine k p _ (Same.new s1 hp) (Same.free s1 hp) ?_
      rw [← hwk, vS_len]
      exact upd_same

def spMade : Sp := fun vs H Q _ => ∃ (a b c : Addr) (tags : List Str) (F : Form) (wd : Word), vs = [.ref a, .ref b, .ref c] ∧ WordAt H a tags ∧ FormAt H b F ∧ WordAt H c wd ∧ Good tags F ∧ (∀ t ∈ wd, t ∈ tags) ∧ wd.length ≤ 10000 ∧ (∀ s ∈ F, s.1.length ≤ 10000) ∧
  ∀ (p : Addr) (H' : Hp), Same H H' → H p = none → H' p = some (.lst (vS (make tags F wd))) → Q (.ref p) H'
theorem ok_made (X : TX K mg) : FnOk P w K mg base CX0 2 X.d_made.a X.d_made.fd ["tags", "standings", "subject"] spMade := by
  have nd := sc_made.nd
  refine X.d_made.F.ok sc_made (fun vs H Q E h => ?_) (fun cdv A outer s H vs Q E hr h => ?_)
  · obtain ⟨a, b, c, tags, F, wd, rfl, _⟩ := h
    rfl
  · obtain ⟨a, b, c, tags, F, wd, rfl, hT, hF, hw, g, hin, hz, hz2, k⟩ := h
    refine ⟨_, (pss_cons (ps_asg (pe_call (ok_walked X) (hr.mono (by decide)) rfl X.d_walked.mg X.d_walked.F.kp X.d_walked.b .nil pass0 (pa_cons (pv 0) (pa_cons (pv 1) (pa_cons (pv 2) pa_nil)))) (pg_tup (by rfl) (pgs_cons (pg_name (i := 3) nd rfl (Or.inl rfl)) (pgs_cons (pg_name (i := 4) nd rfl (Or.inl rfl)) (pgs_nil))))) (pss_one (ps_ret (pe_op op_cat (pe_ix (QB.ix_tupK K) (pe_ix (QB.ix_listK K) (pv 1) (pv 3) (fun _ _ => rfl)) pe_int (fun _ _ => rfl)) (pe_slice (QB.sl_listK K) (pv 2) (po_some (pv 4)) po_none))))), ?_⟩
    try dsimp only [Cx.nox, Cx.wish, cxOf]
    refine ⟨_, rfl, _, rfl, _, rfl, ?_⟩
    refine ⟨a, b, c, tags, F, wd, rfl, hT, hF, hw, g, hin, Nat.le_trans hz (by decide), fun tp H1 s1 ntp h1 => ?_⟩
    refine ⟨tp, _, rfl, SqT.of h1, rfl, _, _, rfl, _, _, rfl, rfl, ?_⟩
    have hwl := (walk_lt g hin).1
    have eF : F[(walk tags F wd).1]? = some F[(walk tags F wd).1] := List.getElem?_eq_getElem hwl
    obtain ⟨vs, t, p1, p2, f1, f2, f3, f4, f5, f6⟩ := (Same.form s1 hF).at eF
    refine ⟨_, rfl, _, rfl, _, _, _, _, rfl, rfl, SqL.of f1, atI_nat f3, _, _, _, _, rfl, rfl, SqT.of f4, rfl, ?_⟩
    refine ⟨_, rfl, _, rfl, _, rfl, _, _, rfl, SqL.of (Same.word s1 hw), fun q hq => ?_⟩
    rw [cut_drop, vS_drop]
    refine ⟨_, _, _, _, rfl, rfl, Eq.trans (upd_ne (ne_of_none f5 hq)) f5, upd_same, ?_, fun p hp => ?_⟩
    · have z1 := hz2 _ (mem_of eF)
      have z2 : (wd.drop (walk tags F wd).2).length ≤ wd.length := by rw [List.length_drop]; omega
      rw [vS_len, vS_len]
      exact sz_le (by omega)
    · have s2 : Same H (upd H1 q (.lst (vS (wd.drop (walk tags F wd).2)))) := Same.new s1 hq
      refine k p _ (Same.new s2 hp) (Same.free s2 hp) ?_
      rw [upd_same, vS_append]
      unfold make
      rw [wordOf_of eF]

def spSettledAt : Sp := fun vs H Q _ => ∃ (t a b : Addr) (ws : Ways), vs = [.ref t] ∧ H t = some (.tup [.ref a, .ref b]) ∧ WaysAt H b ws ∧ ws.length ≤ 1000 ∧ ∀ H', Same H H' → Q (.bl (ws.all Option.isNone)) H'
theorem ok_is_settled_at (X : TX K mg) : FnOk P w K mg base CX0 1 X.d_is_settled_at.a X.d_is_settled_at.fd ["standing"] spSettledAt := by
  have nd := sc_is_settled_at.nd
  refine X.d_is_settled_at.F.ok sc_is_settled_at (fun vs H Q E h => ?_) (fun cdv A outer s H vs Q E hr h => ?_)
  · obtain ⟨t, a, b, ws, rfl, _⟩ := h
    rfl
  · obtain ⟨t, a, b, ws, rfl, ht, hw, hz, k⟩ := h
    refine ⟨_, (pss_one (ps_ret (pe_callB (QB.cr_allK K rfl) (by rfl) X.n_all QB.bo_all (pa_cons (pe_lc (own := [("way", 1)]) (g := gName 1) (tt := tYes) rfl nd (QB.pi_listK K (pe_ix (QB.ix_tupK K) (pv 0) pe_int (fun _ _ => rfl))) (blkOk_by (N := ["standing", "way"]) (sc := defScope s_is_settled_at) (by decide +kernel)) (fun _ _ _ _ _ => pg_name (i := 1) nd rfl (Or.inl rfl)) (fun _ _ _ _ _ => pts_nil) (fun _ _ _ _ _ => (pe_cmpR op_isN (pv 1) pe_non (nomark _)))) pa_nil)))), ?_⟩
    try dsimp only [Cx.nox, Cx.wish, cxOf]
    refine ⟨_, rfl, _, _, _, _, rfl, rfl, SqT.of ht, rfl, _, rfl, ⟨_, SqL.of hw⟩, fun D hD => ?_⟩
    refine lc_map (walk_listWs (K := K) (a := b) (ws := ws)) hD (by omega) (fun H1 s1 => Same.ways s1 hw) (fun i => .bl ((ws[i]?).join.isNone)) ?_ ?_
    · rintro i x H1 H2 kk hi s1 ⟨y, hy, rfl, rfl⟩ hk
      refine ⟨rfl, _, rfl, rfl, ?_⟩
      have e := hk H2 (Same.refl H2)
      rw [hy] at e
      rw [vW_is]
      exact e
    · intro H1 s1 e
      rw [range_map_get _ ws (fun x => .bl x.isNone) (fun i x hx => by rw [hx]; rfl)] at e
      refine ⟨_, ws.map Option.isNone, rfl, SqL.of (by rw [e, List.map_map]; rfl), ?_⟩
      have e2 := k H1 s1
      rw [List.all_map]
      exact e2
end
end Law
end

section
set_option Elab.async false
set_option linter.all false
set_option maxRecDepth 100000
set_option maxHeartbeats 0
namespace Law
open PySem PySem.Spec PyProof.Rows L2 LamX QB QM
def dds : List He.DefD := [⟨("is_number", none), "is_number", "is_number", defArgs s_is_number, defBody s_is_number, defScope s_is_number, [], []⟩,
  ⟨("is_list", none), "is_list", "is_list", defArgs s_is_list, defBody s_is_list, defScope s_is_list, [], []⟩,
  ⟨("is_name", none), "is_name", "is_name", defArgs s_is_name, defBody s_is_name, defScope s_is_name, [], []⟩,
  ⟨("is_tag", none), "is_tag", "is_tag", defArgs s_is_tag, defBody s_is_tag, defScope s_is_tag, [], []⟩,
  ⟨("is_subject", none), "is_subject", "is_subject", defArgs s_is_subject, defBody s_is_subject, defScope s_is_subject, [], []⟩,
  ⟨("is_standing", none), "is_standing", "is_standing", defArgs s_is_standing, defBody s_is_standing, defScope s_is_standing, [], []⟩,
  ⟨("check_tags", none), "check_tags", "check_tags", defArgs s_check_tags, defBody s_check_tags, defScope s_check_tags, [], []⟩,
  ⟨("check_word", none), "check_word", "check_word", defArgs s_check_word, defBody s_check_word, defScope s_check_word, [], []⟩,
  ⟨("check_standings", none), "check_standings", "check_standings", defArgs s_check_standings, defBody s_check_standings, defScope s_check_standings, [], []⟩,
  ⟨("check_number", none), "check_number", "check_number", defArgs s_check_number, defBody s_check_number, defScope s_check_number, [], []⟩,
  ⟨("no_ways", none), "no_ways", "no_ways", defArgs s_no_ways, defBody s_no_ways, defScope s_no_ways, [], []⟩,
  ⟨("walked", none), "walked", "walked", defArgs s_walked, defBody s_walked, defScope s_walked, [], []⟩,
  ⟨("made", none), "made", "made", defArgs s_made, defBody s_made, defScope s_made, [], []⟩,
  ⟨("is_settled_at", none), "is_settled_at", "is_settled_at", defArgs s_is_settled_at, defBody s_is_settled_at, defScope s_is_settled_at, [], []⟩,
  ⟨("is_made_at", none), "is_made_at", "is_made_at", defArgs s_is_made_at, defBody s_is_made_at, defScope s_is_made_at, [], []⟩,
  ⟨("copied", none), "copied", "copied", defArgs s_copied, defBody s_copied, defScope s_copied, [], []⟩,
  ⟨("without_needless_ways", none), "without_needless_ways", "without_needless_ways", defArgs s_without_needless_ways, defBody s_without_needless_ways, defScope s_without_needless_ways, [], []⟩,
  ⟨("numbered", none), "numbered", "numbered", defArgs s_numbered, defBody s_numbered, defScope s_numbered, [], []⟩,
  ⟨("parted", none), "parted", "parted", defArgs s_parted, defBody s_parted, defScope s_parted, [], []⟩,
  ⟨("alike_classes", none), "alike_classes", "alike_classes", defArgs s_alike_classes, defBody s_alike_classes, defScope s_alike_classes, [], []⟩,
  ⟨("in_order_met", none), "in_order_met", "in_order_met", defArgs s_in_order_met, defBody s_in_order_met, defScope s_in_order_met, [], []⟩,
  ⟨("least_form", none), "least_form", "least_form", defArgs s_least_form, defBody s_least_form, defScope s_least_form, [], []⟩,
  ⟨("moved", none), "moved", "moved", defArgs s_moved, defBody s_moved, defScope s_moved, [], []⟩,
  ⟨("one_behind_other", none), "one_behind_other", "one_behind_other", defArgs s_one_behind_other, defBody s_one_behind_other, defScope s_one_behind_other, [], []⟩,
  ⟨("eater_of", none), "eater_of", "eater_of", defArgs s_eater_of, defBody s_eater_of, defScope s_eater_of, [], []⟩,
  ⟨("small_form", none), "small_form", "small_form", defArgs s_small_form, defBody s_small_form, defScope s_small_form, [], []⟩,
  ⟨("check_same_tags", none), "check_same_tags", "check_same_tags", defArgs s_check_same_tags, defBody s_check_same_tags, defScope s_check_same_tags, [], []⟩,
  ⟨("powers", none), "powers", "powers", defArgs s_powers, defBody s_powers, defScope s_powers, [], []⟩,
  ⟨("is_settled", none), "is_settled", "is_settled", defArgs s_is_settled, defBody s_is_settled, defScope s_is_settled, [], []⟩,
  ⟨("check_tag", none), "check_tag", "check_tag", defArgs s_check_tag, defBody s_check_tag, defScope s_check_tag, [], []⟩,
  ⟨("check_some", none), "check_some", "check_some", defArgs s_check_some, defBody s_check_some, defScope s_check_some, [], []⟩,
  ⟨("is_pair", none), "is_pair", "is_pair", defArgs s_is_pair, defBody s_is_pair, defScope s_is_pair, [], []⟩,
  ⟨("check_pairs", none), "check_pairs", "check_pairs", defArgs s_check_pairs, defBody s_check_pairs, defScope s_check_pairs, [], []⟩,
  ⟨("ways_for", none), "ways_for", "ways_for", defArgs s_ways_for, defBody s_ways_for, defScope s_ways_for, [], []⟩,
  ⟨("keep", none), "keep", "keep", defArgs s_keep, defBody s_keep, defScope s_keep, [], []⟩,
  ⟨("put", none), "put", "put", defArgs s_put, defBody s_put, defScope s_put, [], []⟩,
  ⟨("strip", none), "strip", "strip", defArgs s_strip, defBody s_strip, defScope s_strip, [], []⟩,
  ⟨("once", none), "once", "once", defArgs s_once, defBody s_once, defScope s_once, [], []⟩,
  ⟨("exchange", none), "exchange", "exchange", defArgs s_exchange, defBody s_exchange, defScope s_exchange, [], []⟩,
  ⟨("press", none), "press", "press", defArgs s_press, defBody s_press, defScope s_press, [], []⟩,
  ⟨("_law_mixed", none), "_law_mixed", "_law_mixed", defArgs s__law_mixed, defBody s__law_mixed, defScope s__law_mixed, [], []⟩,
  ⟨("_law_pile", none), "_law_pile", "_law_pile", defArgs s__law_pile, defBody s__law_pile, defScope s__law_pile, [], []⟩,
  ⟨("_law_take", none), "_law_take", "_law_take", defArgs s__law_take, defBody s__law_take, defScope s__law_take, [], []⟩,
  ⟨("_law_tags", none), "_law_tags", "_law_tags", defArgs s__law_tags, defBody s__law_tags, defScope s__law_tags, [], []⟩,
  ⟨("_law_subject", none), "_law_subject", "_law_subject", defArgs s__law_subject, defBody s__law_subject, defScope s__law_subject, [], []⟩,
  ⟨("_law_stripped", none), "_law_stripped", "_law_stripped", defArgs s__law_stripped, defBody s__law_stripped, defScope s__law_stripped, [], []⟩,
  ⟨("_law_pressed", none), "_law_pressed", "_law_pressed", defArgs s__law_pressed, defBody s__law_pressed, defScope s__law_pressed, [], []⟩,
  ⟨("_law_exchanged", none), "_law_exchanged", "_law_exchanged", defArgs s__law_exchanged, defBody s__law_exchanged, defScope s__law_exchanged, [], []⟩,
  ⟨("_law_kept_right", none), "_law_kept_right", "_law_kept_right", defArgs s__law_kept_right, defBody s__law_kept_right, defScope s__law_kept_right, [], []⟩,
  ⟨("_law_ones_right", none), "_law_ones_right", "_law_ones_right", defArgs s__law_ones_right, defBody s__law_ones_right, defScope s__law_ones_right, [], []⟩,
  ⟨("law", none), "law", "law", defArgs s_law, defBody s_law, defScope s_law, [], []⟩,
  ⟨("InvalidTags", some "__init__"), "__init__", "InvalidTags.__init__", defArgs s_InvalidTags___init__, defBody s_InvalidTags___init__, defScope s_InvalidTags___init__, [], []⟩,
  ⟨("InvalidSubject", some "__init__"), "__init__", "InvalidSubject.__init__", defArgs s_InvalidSubject___init__, defBody s_InvalidSubject___init__, defScope s_InvalidSubject___init__, [], []⟩,
  ⟨("InvalidEater", some "__init__"), "__init__", "InvalidEater.__init__", defArgs s_InvalidEater___init__, defBody s_InvalidEater___init__, defScope s_InvalidEater___init__, [], []⟩,
  ⟨("InvalidTag", some "__init__"), "__init__", "InvalidTag.__init__", defArgs s_InvalidTag___init__, defBody s_InvalidTag___init__, defScope s_InvalidTag___init__, [], []⟩,
  ⟨("InvalidPairs", some "__init__"), "__init__", "InvalidPairs.__init__", defArgs s_InvalidPairs___init__, defBody s_InvalidPairs___init__, defScope s_InvalidPairs___init__, [], []⟩,
  ⟨("InvalidNumber", some "__init__"), "__init__", "InvalidNumber.__init__", defArgs s_InvalidNumber___init__, defBody s_InvalidNumber___init__, defScope s_InvalidNumber___init__, [], []⟩,
  ⟨("TooMany", some "__init__"), "__init__", "TooMany.__init__", defArgs s_TooMany___init__, defBody s_TooMany___init__, defScope s_TooMany___init__, [], []⟩,
  ⟨("Eater", some "__init__"), "__init__", "Eater.__init__", defArgs s_Eater___init__, defBody s_Eater___init__, defScope s_Eater___init__, [], []⟩,
  ⟨("Eater", some "__len__"), "__len__", "Eater.__len__", defArgs s_Eater___len__, defBody s_Eater___len__, defScope s_Eater___len__, [], []⟩,
  ⟨("Eater", some "__eq__"), "__eq__", "Eater.__eq__", defArgs s_Eater___eq__, defBody s_Eater___eq__, defScope s_Eater___eq__, [], []⟩,
  ⟨("Eater", some "__contains__"), "__contains__", "Eater.__contains__", defArgs s_Eater___contains__, defBody s_Eater___contains__, defScope s_Eater___contains__, [], []⟩,
  ⟨("Eater", some "tags"), "tags", "Eater.tags", defArgs s_Eater_tags, defBody s_Eater_tags, defScope s_Eater_tags, [], []⟩,
  ⟨("Eater", some "standings"), "standings", "Eater.standings", defArgs s_Eater_standings, defBody s_Eater_standings, defScope s_Eater_standings, [], []⟩,
  ⟨("Eater", some "on"), "on", "Eater.on", defArgs s_Eater_on, defBody s_Eater_on, defScope s_Eater_on, [], []⟩,
  ⟨("Eater", some "settled"), "settled", "Eater.settled", defArgs s_Eater_settled, defBody s_Eater_settled, defScope s_Eater_settled, [], []⟩,
  ⟨("Eater", some "then"), "then", "Eater.then", defArgs s_Eater_then, defBody s_Eater_then, defScope s_Eater_then, [], []⟩,
  ⟨("Eater", some "power"), "power", "Eater.power", defArgs s_Eater_power, defBody s_Eater_power, defScope s_Eater_power, [], []⟩]
def fas : List He.Fa := [.free "abs", .free "all", .free "any", .free "bool", .free "enumerate", .free "int", .free "isinstance", .free "len", .free "list", .free "max", .free "range", .free "repr", .free "set", .free "sorted", .free "str", .free "tuple", .free "zip", .str "LETTERS" "abcdefghijklmnopqrstuvwxyz", .int "MOST_LETTERS" 8, .int "MOST_TAGS" 6, .int "MOST_STANDINGS" 30, .int "LONGEST_WORD" 8, .int "LONGEST_SUBJECT" 200, .int "MOST_TIMES" 12, .int "LARGEST" 200, .int "LARGEST_MOST" 20, .glo "is_number", .glo "is_list", .glo "is_name", .glo "is_tag", .glo "is_subject", .glo "is_standing", .glo "check_tags", .glo "check_word", .glo "check_standings", .glo "check_number", .glo "no_ways", .glo "walked", .glo "made", .glo "is_settled_at", .glo "is_made_at", .glo "copied", .glo "without_needless_ways", .glo "numbered", .glo "parted", .glo "alike_classes", .glo "in_order_met", .glo "least_form", .glo "moved", .glo "one_behind_other", .glo "eater_of", .glo "small_form", .glo "check_same_tags", .glo "powers", .glo "is_settled", .glo "check_tag", .glo "check_some", .glo "is_pair", .glo "check_pairs", .glo "ways_for", .glo "keep", .glo "put", .glo "strip", .glo "once", .glo "exchange", .glo "press", .glo "_law_mixed", .glo "_law_pile", .glo "_law_take", .glo "_law_tags", .glo "_law_subject", .glo "_law_stripped", .glo "_law_pressed", .glo "_law_exchanged", .glo "_law_kept_right", .glo "_law_ones_right", .glo "law", .glo "TagError", .glo "InvalidTags", .glo "InvalidSubject", .glo "InvalidEater", .glo "InvalidTag", .glo "InvalidPairs", .glo "InvalidNumber", .glo "UnlikeTags", .glo "TooMany", .glo "Eater", .cls "Eater", .meth "Eater" "__len__", .meth "Eater" "__eq__", .meth "Eater" "__contains__", .meth "Eater" "tags", .meth "Eater" "standings", .meth "Eater" "on", .meth "Eater" "settled", .meth "Eater" "then", .meth "Eater" "power", .mkr "Eater", .noat "Eater" "_standings", .noat "Eater" "_tags"]
def exB (K : PySem.W.Frag) : Bool := QE.ownB K (He.ga K "Eater") && (QX.excTB K (He.ga K "InvalidTags") (He.fAd K ("InvalidTags", some "__init__")) "index" && (QX.excTB K (He.ga K "InvalidSubject") (He.fAd K ("InvalidSubject", some "__init__")) "index" && (QX.excTB K (He.ga K "InvalidEater") (He.fAd K ("InvalidEater", some "__init__")) "index" && (QX.excTB K (He.ga K "InvalidTag") (He.fAd K ("InvalidTag", some "__init__")) "tag" && (QX.excTB K (He.ga K "InvalidPairs") (He.fAd K ("InvalidPairs", some "__init__")) "index" && (QX.excTB K (He.ga K "InvalidNumber") (He.fAd K ("InvalidNumber", some "__init__")) "number" && (QX.excTB K (He.ga K "TooMany") (He.fAd K ("TooMany", some "__init__")) "limit" && (QX.exmB K (He.ga K "InvalidTags") (He.ga K "TagError") && (QX.isTB K (He.ga K "InvalidTags") "ValueError" true && (QX.isB K (He.ga K "InvalidTags") (He.ga K "TagError") true && (QX.isB K (He.ga K "InvalidTags") (He.ga K "InvalidTags") true && (QX.isB K (He.ga K "InvalidTags") (He.ga K "InvalidSubject") false && (QX.isB K (He.ga K "InvalidTags") (He.ga K "InvalidEater") false && (QX.isB K (He.ga K "InvalidTags") (He.ga K "InvalidTag") false && (QX.isB K (He.ga K "InvalidTags") (He.ga K "InvalidPairs") false && (QX.isB K (He.ga K "InvalidTags") (He.ga K "InvalidNumber") false && (QX.isB K (He.ga K "InvalidTags") (He.ga K "UnlikeTags") false && (QX.isB K (He.ga K "InvalidTags") (He.ga K "TooMany") false && (QX.exmB K (He.ga K "InvalidSubject") (He.ga K "TagError") && (QX.isTB K (He.ga K "InvalidSubject") "ValueError" true && (QX.isB K (He.ga K "InvalidSubject") (He.ga K "TagError") true && (QX.isB K (He.ga K "InvalidSubject") (He.ga K "InvalidTags") false && (QX.isB K (He.ga K "InvalidSubject") (He.ga K "InvalidSubject") true && (QX.isB K (He.ga K "InvalidSubject") (He.ga K "InvalidEater") false && (QX.isB K (He.ga K "InvalidSubject") (He.ga K "InvalidTag") false && (QX.isB K (He.ga K "InvalidSubject") (He.ga K "InvalidPairs") false && (QX.isB K (He.ga K "InvalidSubject") (He.ga K "InvalidNumber") false && (QX.isB K (He.ga K "InvalidSubject") (He.ga K "UnlikeTags") false && (QX.isB K (He.ga K "InvalidSubject") (He.ga K "TooMany") false && (QX.exmB K (He.ga K "InvalidEater") (He.ga K "TagError") && (QX.isTB K (He.ga K "InvalidEater") "ValueError" true && (QX.isB K (He.ga K "InvalidEater") (He.ga K "TagError") true && (QX.isB K (He.ga K "InvalidEater") (He.ga K "InvalidTags") false && (QX.isB K (He.ga K "InvalidEater") (He.ga K "InvalidSubject") false && (QX.isB K (He.ga K "InvalidEater") (He.ga K "InvalidEater") true && (QX.isB K (He.ga K "InvalidEater") (He.ga K "InvalidTag") false && (QX.isB K (He.ga K "InvalidEater") (He.ga K "InvalidPairs") false && (QX.isB K (He.ga K "InvalidEater") (He.ga K "InvalidNumber") false && (QX.isB K (He.ga K "InvalidEater") (He.ga K "UnlikeTags") false && (QX.isB K (He.ga K "InvalidEater") (He.ga K "TooMany") false && (QX.exmB K (He.ga K "InvalidTag") (He.ga K "TagError") && (QX.isTB K (He.ga K "InvalidTag") "ValueError" true && (QX.isB K (He.ga K "InvalidTag") (He.ga K "TagError") true && (QX.isB K (He.ga K "InvalidTag") (He.ga K "InvalidTags") false && (QX.isB K (He.ga K "InvalidTag") (He.ga K "InvalidSubject") false && (QX.isB K (He.ga K "InvalidTag") (He.ga K "InvalidEater") false && (QX.isB K (He.ga K "InvalidTag") (He.ga K "InvalidTag") true && (QX.isB K (He.ga K "InvalidTag") (He.ga K "InvalidPairs") false && (QX.isB K (He.ga K "InvalidTag") (He.ga K "InvalidNumber") false && (QX.isB K (He.ga K "InvalidTag") (He.ga K "UnlikeTags") false && (QX.isB K (He.ga K "InvalidTag") (He.ga K "TooMany") false && (QX.exmB K (He.ga K "InvalidPairs") (He.ga K "TagError") && (QX.isTB K (He.ga K "InvalidPairs") "ValueError" true && (QX.isB K (He.ga K "InvalidPairs") (He.ga K "TagError") true && (QX.isB K (He.ga K "InvalidPairs") (He.ga K "InvalidTags") false && (QX.isB K (He.ga K "InvalidPairs") (He.ga K "InvalidSubject") false && (QX.isB K (He.ga K "InvalidPairs") (He.ga K "InvalidEater") false && (QX.isB K (He.ga K "InvalidPairs") (He.ga K "InvalidTag") false && (QX.isB K (He.ga K "InvalidPairs") (He.ga K "InvalidPairs") true && (QX.isB K (He.ga K "InvalidPairs") (He.ga K "InvalidNumber") false && (QX.isB K (He.ga K "InvalidPairs") (He.ga K "UnlikeTags") false && (QX.isB K (He.ga K "InvalidPairs") (He.ga K "TooMany") false && (QX.exmB K (He.ga K "InvalidNumber") (He.ga K "TagError") && (QX.isTB K (He.ga K "InvalidNumber") "ValueError" true && (QX.isB K (He.ga K "InvalidNumber") (He.ga K "TagError") true && (QX.isB K (He.ga K "InvalidNumber") (He.ga K "InvalidTags") false && (QX.isB K (He.ga K "InvalidNumber") (He.ga K "InvalidSubject") false && (QX.isB K (He.ga K "InvalidNumber") (He.ga K "InvalidEater") false && (QX.isB K (He.ga K "InvalidNumber") (He.ga K "InvalidTag") false && (QX.isB K (He.ga K "InvalidNumber") (He.ga K "InvalidPairs") false && (QX.isB K (He.ga K "InvalidNumber") (He.ga K "InvalidNumber") true && (QX.isB K (He.ga K "InvalidNumber") (He.ga K "UnlikeTags") false && (QX.isB K (He.ga K "InvalidNumber") (He.ga K "TooMany") false && (QX.exmB K (He.ga K "UnlikeTags") (He.ga K "TagError") && (QX.isTB K (He.ga K "UnlikeTags") "ValueError" true && (QX.isB K (He.ga K "UnlikeTags") (He.ga K "TagError") true && (QX.isB K (He.ga K "UnlikeTags") (He.ga K "InvalidTags") false && (QX.isB K (He.ga K "UnlikeTags") (He.ga K "InvalidSubject") false && (QX.isB K (He.ga K "UnlikeTags") (He.ga K "InvalidEater") false && (QX.isB K (He.ga K "UnlikeTags") (He.ga K "InvalidTag") false && (QX.isB K (He.ga K "UnlikeTags") (He.ga K "InvalidPairs") false && (QX.isB K (He.ga K "UnlikeTags") (He.ga K "InvalidNumber") false && (QX.isB K (He.ga K "UnlikeTags") (He.ga K "UnlikeTags") true && (QX.isB K (He.ga K "UnlikeTags") (He.ga K "TooMany") false && (QX.exmB K (He.ga K "TooMany") (He.ga K "TagError") && (QX.isTB K (He.ga K "TooMany") "ValueError" true && (QX.isB K (He.ga K "TooMany") (He.ga K "TagError") true && (QX.isB K (He.ga K "TooMany") (He.ga K "InvalidTags") false && (QX.isB K (He.ga K "TooMany") (He.ga K "InvalidSubject") false && (QX.isB K (He.ga K "TooMany") (He.ga K "InvalidEater") false && (QX.isB K (He.ga K "TooMany") (He.ga K "InvalidTag") false && (QX.isB K (He.ga K "TooMany") (He.ga K "InvalidPairs") false && (QX.isB K (He.ga K "TooMany") (He.ga K "InvalidNumber") false && (QX.isB K (He.ga K "TooMany") (He.ga K "UnlikeTags") false && (QX.isB K (He.ga K "TooMany") (He.ga K "TooMany") true)))))))))))))))))))))))))))))))))))))))))))))))))))))))))))))))))))))))))))))))))))))))))))))))
theorem tx_mk {K : PySem.W.Frag} {h : Heap} {mg : Str → Option Value} (X0 : K.In h) (G : h.Ns mainGlobals mg) (c : He.SaysD fas dds K) (ce : exB K = true) : ∃ X : TX K mg, X.lam_c = He.codeOf K ("without_needless_ways", none) ∧ X.lam_P = He.tabOf K (He.codeOf K ("without_needless_ways", none)) ∧ X.d_law.a = He.ga K "law" := by
  obtain ⟨fd0, F0⟩ := c.def_ 0 (d := ⟨("is_number", none), "is_number", "is_number", defArgs s_is_number, defBody s_is_number, defScope s_is_number, [], []⟩) rfl
  have F0 : L2.Fun K "is_number" "is_number" s_is_number (He.fAd K ("is_number", none)) fd0 := QE.funD_fun F0
  obtain ⟨fd1, F1⟩ := c.def_ 1 (d := ⟨("is_list", none), "is_list", "is_list", defArgs s_is_list, defBody s_is_list, defScope s_is_list, [], []⟩) rfl
  have F1 : L2.Fun K "is_list" "is_list" s_is_list (He.fAd K ("is_list", none)) fd1 := QE.funD_fun F1
  obtain ⟨fd2, F2⟩ := c.def_ 2 (d := ⟨("is_name", none), "is_name", "is_name", defArgs s_is_name, defBody s_is_name, defScope s_is_name, [], []⟩) rfl
  have F2 : L2.Fun K "is_name" "is_name" s_is_name (He.fAd K ("is_name", none)) fd2 := QE.funD_fun F2
  obtain ⟨fd3, F3⟩ := c.def_ 3 (d := ⟨("is_tag", none), "is_tag", "is_tag", defArgs s_is_tag, defBody s_is_tag, defScope s_is_tag, [], []⟩) rfl
  have F3 : L2.Fun K "is_tag" "is_tag" s_is_tag (He.fAd K ("is_tag", none)) fd3 := QE.funD_fun F3
  obtain ⟨fd4, F4⟩ := c.def_ 4 (d := ⟨("is_subject", none), "is_subject", "is_subject", defArgs s_is_subject, defBody s_is_subject, defScope s_is_subject, [], []⟩) rfl
  have F4 : L2.Fun K "is_subject" "is_subject" s_is_subject (He.fAd K ("is_subject", none)) fd4 := QE.funD_fun F4
  obtain ⟨fd5, F5⟩ := c.def_ 5 (d := ⟨("is_standing", none), "is_standing", "is_standing", defArgs s_is_standing, defBody s_is_standing, defScope s_is_standing, [], []⟩) rfl
  have F5 : L2.Fun K "is_standing" "is_standing" s_is_standing (He.fAd K ("is_standing", none)) fd5 := QE.funD_fun F5
  obtain ⟨fd6, F6⟩ := c.def_ 6 (d := ⟨("check_tags", none), "check_tags", "check_tags", defArgs s_check_tags, defBody s_check_tags, defScope s_check_tags, [], []⟩) rfl
  have F6 : L2.Fun K "check_tags" "check_tags" s_check_tags (He.fAd K ("check_tags", none)) fd6 := QE.funD_fun F6
  obtain ⟨fd7, F7⟩ := c.def_ 7 (d := ⟨("check_word", none), "check_word", "check_word", defArgs s_check_word, defBody s_check_word, defScope s_check_word, [], []⟩) rfl
  have F7 : L2.Fun K "check_word" "check_word" s_check_word (He.fAd K ("check_word", none)) fd7 := QE.funD_fun F7
  obtain ⟨fd8, F8⟩ := c.def_ 8 (d := ⟨("check_standings", none), "check_standings", "check_standings", defArgs s_check_standings, defBody s_check_standings, defScope s_check_standings, [], []⟩) rfl
  have F8 : L2.Fun K "check_standings" "check_standings" s_check_standings (He.fAd K ("check_standings", none)) fd8 := QE.funD_fun F8
  obtain ⟨fd9, F9⟩ := c.def_ 9 (d := ⟨("check_number", none), "check_number", "check_number", defArgs s_check_number, defBody s_check_number, defScope s_check_number, [], []⟩) rfl
  have F9 : L2.Fun K "check_number" "check_number" s_check_number (He.fAd K ("check_number", none)) fd9 := QE.funD_fun F9
  obtain ⟨fd10, F10⟩ := c.def_ 10 (d := ⟨("no_ways", none), "no_ways", "no_ways", defArgs s_no_ways, defBody s_no_ways, defScope s_no_ways, [], []⟩) rfl
  have F10 : L2.Fun K "no_ways" "no_ways" s_no_ways (He.fAd K ("no_ways", none)) fd10 := QE.funD_fun F10
  obtain ⟨fd11, F11⟩ := c.def_ 11 (d := ⟨("walked", none), "walked", "walked", defArgs s_walked, defBody s_walked, defScope s_walked, [], []⟩) rfl
  have F11 : L2.Fun K "walked" "walked" s_walked (He.fAd K ("walked", none)) fd11 := QE.funD_fun F11
  obtain ⟨fd12, F12⟩ := c.def_ 12 (d := ⟨("made", none), "made", "made", defArgs s_made, defBody s_made, defScope s_made, [], []⟩) rfl
  have F12 : L2.Fun K "made" "made" s_made (He.fAd K ("made", none)) fd12 := QE.funD_fun F12
  obtain ⟨fd13, F13⟩ := c.def_ 13 (d := ⟨("is_settled_at", none), "is_settled_at", "is_settled_at", defArgs s_is_settled_at, defBody s_is_settled_at, defScope s_is_settled_at, [], []⟩) rfl
  have F13 : L2.Fun K "is_settled_at" "is_settled_at" s_is_settled_at (He.fAd K ("is_settled_at", none)) fd13 := QE.funD_fun F13
  obtain ⟨fd14, F14⟩ := c.def_ 14 (d := ⟨("is_made_at", none), "is_made_at", "is_made_at", defArgs s_is_made_at, defBody s_is_made_at, defScope s_is_made_at, [], []⟩) rfl
  have F14 : L2.Fun K "is_made_at" "is_made_at" s_is_made_at (He.fAd K ("is_made_at", none)) fd14 := QE.funD_fun F14
  obtain ⟨fd15, F15⟩ := c.def_ 15 (d := ⟨("copied", none), "copied", "copied", defArgs s_copied, defBody s_copied, defScope s_copied, [], []⟩) rfl
  have F15 : L2.Fun K "copied" "copied" s_copied (He.fAd K ("copied", none)) fd15 := QE.funD_fun F15
  obtain ⟨fd16, F16⟩ := c.def_ 16 (d := ⟨("without_needless_ways", none), "without_needless_ways", "without_needless_ways", defArgs s_without_needless_ways, defBody s_without_needless_ways, defScope s_without_needless_ways, [], []⟩) rfl
  have G16 : QB.FunC K "without_needless_ways" "without_needless_ways" s_without_needless_ways (He.fAd K ("without_needless_ways", none)) fd16 (He.codeOf K ("without_needless_ways", none)) := QE.funC_of F16
  have F16 : L2.Fun K "without_needless_ways" "without_needless_ways" s_without_needless_ways (He.fAd K ("without_needless_ways", none)) fd16 := QE.funD_fun F16
  obtain ⟨fd17, F17⟩ := c.def_ 17 (d := ⟨("numbered", none), "numbered", "numbered", defArgs s_numbered, defBody s_numbered, defScope s_numbered, [], []⟩) rfl
  have F17 : L2.Fun K "numbered" "numbered" s_numbered (He.fAd K ("numbered", none)) fd17 := QE.funD_fun F17
  obtain ⟨fd18, F18⟩ := c.def_ 18 (d := ⟨("parted", none), "parted", "parted", defArgs s_parted, defBody s_parted, defScope s_parted, [], []⟩) rfl
  have F18 : L2.Fun K "parted" "parted" s_parted (He.fAd K ("parted", none)) fd18 := QE.funD_fun F18
  obtain ⟨fd19, F19⟩ := c.def_ 19 (d := ⟨("alike_classes", none), "alike_classes", "alike_classes", defArgs s_alike_classes, defBody s_alike_classes, defScope s_alike_classes, [], []⟩) rfl
  have F19 : L2.Fun K "alike_classes" "alike_classes" s_alike_classes (He.fAd K ("alike_classes", none)) fd19 := QE.funD_fun F19
  obtain ⟨fd20, F20⟩ := c.def_ 20 (d := ⟨("in_order_met", none), "in_order_met", "in_order_met", defArgs s_in_order_met, defBody s_in_order_met, defScope s_in_order_met, [], []⟩) rfl
  have F20 : L2.Fun K "in_order_met" "in_order_met" s_in_order_met (He.fAd K ("in_order_met", none)) fd20 := QE.funD_fun F20
  obtain ⟨fd21, F21⟩ := c.def_ 21 (d := ⟨("least_form", none), "least_form", "least_form", defArgs s_least_form, defBody s_least_form, defScope s_least_form, [], []⟩) rfl
  have F21 : L2.Fun K "least_form" "least_form" s_least_form (He.fAd K ("least_form", none)) fd21 := QE.funD_fun F21
  obtain ⟨fd22, F22⟩ := c.def_ 22 (d := ⟨("moved", none), "moved", "moved", defArgs s_moved, defBody s_moved, defScope s_moved, [], []⟩) rfl
  have F22 : L2.Fun K "moved" "moved" s_moved (He.fAd K ("moved", none)) fd22 := QE.funD_fun F22
  obtain ⟨fd23, F23⟩ := c.def_ 23 (d := ⟨("one_behind_other", none), "one_behind_other", "one_behind_other", defArgs s_one_behind_other, defBody s_one_behind_other, defScope s_one_behind_other, [], []⟩) rfl
  have F23 : L2.Fun K "one_behind_other" "one_behind_other" s_one_behind_other (He.fAd K ("one_behind_other", none)) fd23 := QE.funD_fun F23
  obtain ⟨fd24, F24⟩ := c.def_ 24 (d := ⟨("eater_of", none), "eater_of", "eater_of", defArgs s_eater_of, defBody s_eater_of, defScope s_eater_of, [], []⟩) rfl
  have F24 : L2.Fun K "eater_of" "eater_of" s_eater_of (He.fAd K ("eater_of", none)) fd24 := QE.funD_fun F24
  obtain ⟨fd25, F25⟩ := c.def_ 25 (d := ⟨("small_form", none), "small_form", "small_form", defArgs s_small_form, defBody s_small_form, defScope s_small_form, [], []⟩) rfl
  have F25 : L2.Fun K "small_form" "small_form" s_small_form (He.fAd K ("small_form", none)) fd25 := QE.funD_fun F25
  obtain ⟨fd26, F26⟩ := c.def_ 26 (d := ⟨("check_same_tags", none), "check_same_tags", "check_same_tags", defArgs s_check_same_tags, defBody s_check_same_tags, defScope s_check_same_tags, [], []⟩) rfl
  have F26 : L2.Fun K "check_same_tags" "check_same_tags" s_check_same_tags (He.fAd K ("check_same_tags", none)) fd26 := QE.funD_fun F26
  obtain ⟨fd27, F27⟩ := c.def_ 27 (d := ⟨("powers", none), "powers", "powers", defArgs s_powers, defBody s_powers, defScope s_powers, [], []⟩) rfl
  have F27 : L2.Fun K "powers" "powers" s_powers (He.fAd K ("powers", none)) fd27 := QE.funD_fun F27
  obtain ⟨fd28, F28⟩ := c.def_ 28 (d := ⟨("is_settled", none), "is_settled", "is_settled", defArgs s_is_settled, defBody s_is_settled, defScope s_is_settled, [], []⟩) rfl
  have F28 : L2.Fun K "is_settled" "is_settled" s_is_settled (He.fAd K ("is_settled", none)) fd28 := QE.funD_fun F28
  obtain ⟨fd29, F29⟩ := c.def_ 29 (d := ⟨("check_tag", none), "check_tag", "check_tag", defArgs s_check_tag, defBody s_check_tag, defScope s_check_tag, [], []⟩) rfl
  have F29 : L2.Fun K "check_tag" "check_tag" s_check_tag (He.fAd K ("check_tag", none)) fd29 := QE.funD_fun F29
  obtain ⟨fd30, F30⟩ := c.def_ 30 (d := ⟨("check_some", none), "check_some", "check_some", defArgs s_check_some, defBody s_check_some, defScope s_check_some, [], []⟩) rfl
  have F30 : L2.Fun K "check_some" "check_some" s_check_some (He.fAd K ("check_some", none)) fd30 := QE.funD_fun F30
  obtain ⟨fd31, F31⟩ := c.def_ 31 (d := ⟨("is_pair", none), "is_pair", "is_pair", defArgs s_is_pair, defBody s_is_pair, defScope s_is_pair, [], []⟩) rfl
  have F31 : L2.Fun K "is_pair" "is_pair" s_is_pair (He.fAd K ("is_pair", none)) fd31 := QE.funD_fun F31
  obtain ⟨fd32, F32⟩ := c.def_ 32 (d := ⟨("check_pairs", none), "check_pairs", "check_pairs", defArgs s_check_pairs, defBody s_check_pairs, defScope s_check_pairs, [], []⟩) rfl
  have F32 : L2.Fun K "check_pairs" "check_pairs" s_check_pairs (He.fAd K ("check_pairs", none)) fd32 := QE.funD_fun F32
  obtain ⟨fd33, F33⟩ := c.def_ 33 (d := ⟨("ways_for", none), "ways_for", "ways_for", defArgs s_ways_for, defBody s_ways_for, defScope s_ways_for, [], []⟩) rfl
  have F33 : L2.Fun K "ways_for" "ways_for" s_ways_for (He.fAd K ("ways_for", none)) fd33 := QE.funD_fun F33
  obtain ⟨fd34, F34⟩ := c.def_ 34 (d := ⟨("keep", none), "keep", "keep", defArgs s_keep, defBody s_keep, defScope s_keep, [], []⟩) rfl
  have F34 : L2.Fun K "keep" "keep" s_keep (He.fAd K ("keep", none)) fd34 := QE.funD_fun F34
  obtain ⟨fd35, F35⟩ := c.def_ 35 (d := ⟨("put", none), "put", "put", defArgs s_put, defBody s_put, defScope s_put, [], []⟩) rfl
  have F35 : L2.Fun K "put" "put" s_put (He.fAd K ("put", none)) fd35 := QE.funD_fun F35
  obtain ⟨fd36, F36⟩ := c.def_ 36 (d := ⟨("strip", none), "strip", "strip", defArgs s_strip, defBody s_strip, defScope s_strip, [], []⟩) rfl
  have F36 : L2.Fun K "strip" "strip" s_strip (He.fAd K ("strip", none)) fd36 := QE.funD_fun F36
  obtain ⟨fd37, F37⟩ := c.def_ 37 (d := ⟨("once", none), "once", "once", defArgs s_once, defBody s_once, defScope s_once, [], []⟩) rfl
  have F37 : L2.Fun K "once" "once" s_once (He.fAd K ("once", none)) fd37 := QE.funD_fun F37
  obtain ⟨fd38, F38⟩ := c.def_ 38 (d := ⟨("exchange", none), "exchange", "exchange", defArgs s_exchange, defBody s_exchange, defScope s_exchange, [], []⟩) rfl
  have F38 : L2.Fun K "exchange" "exchange" s_exchange (He.fAd K ("exchange", none)) fd38 := QE.funD_fun F38
  obtain ⟨fd39, F39⟩ := c.def_ 39 (d := ⟨("press", none), "press", "press", defArgs s_press, defBody s_press, defScope s_press, [], []⟩) rfl
  have F39 : L2.Fun K "press" "press" s_press (He.fAd K ("press", none)) fd39 := QE.funD_fun F39
  obtain ⟨fd40, F40⟩ := c.def_ 40 (d := ⟨("_law_mixed", none), "_law_mixed", "_law_mixed", defArgs s__law_mixed, defBody s__law_mixed, defScope s__law_mixed, [], []⟩) rfl
  have F40 : L2.Fun K "_law_mixed" "_law_mixed" s__law_mixed (He.fAd K ("_law_mixed", none)) fd40 := QE.funD_fun F40
  obtain ⟨fd41, F41⟩ := c.def_ 41 (d := ⟨("_law_pile", none), "_law_pile", "_law_pile", defArgs s__law_pile, defBody s__law_pile, defScope s__law_pile, [], []⟩) rfl
  have F41 : L2.Fun K "_law_pile" "_law_pile" s__law_pile (He.fAd K ("_law_pile", none)) fd41 := QE.funD_fun F41
  obtain ⟨fd42, F42⟩ := c.def_ 42 (d := ⟨("_law_take", none), "_law_take", "_law_take", defArgs s__law_take, defBody s__law_take, defScope s__law_take, [], []⟩) rfl
  have F42 : L2.Fun K "_law_take" "_law_take" s__law_take (He.fAd K ("_law_take", none)) fd42 := QE.funD_fun F42
  obtain ⟨fd43, F43⟩ := c.def_ 43 (d := ⟨("_law_tags", none), "_law_tags", "_law_tags", defArgs s__law_tags, defBody s__law_tags, defScope s__law_tags, [], []⟩) rfl
  have F43 : L2.Fun K "_law_tags" "_law_tags" s__law_tags (He.fAd K ("_law_tags", none)) fd43 := QE.funD_fun F43
  obtain ⟨fd44, F44⟩ := c.def_ 44 (d := ⟨("_law_subject", none), "_law_subject", "_law_subject", defArgs s__law_subject, defBody s__law_subject, defScope s__law_subject, [], []⟩) rfl
  have F44 : L2.Fun K "_law_subject" "_law_subject" s__law_subject (He.fAd K ("_law_subject", none)) fd44 := QE.funD_fun F44
  obtain ⟨fd45, F45⟩ := c.def_ 45 (d := ⟨("_law_stripped", none), "_law_stripped", "_law_stripped", defArgs s__law_stripped, defBody s__law_stripped, defScope s__law_stripped, [], []⟩) rfl
  have F45 : L2.Fun K "_law_stripped" "_law_stripped" s__law_stripped (He.fAd K ("_law_stripped", none)) fd45 := QE.funD_fun F45
  obtain ⟨fd46, F46⟩ := c.def_ 46 (d := ⟨("_law_pressed", none), "_law_pressed", "_law_pressed", defArgs s__law_pressed, defBody s__law_pressed, defScope s__law_pressed, [], []⟩) rfl
  have F46 : L2.Fun K "_law_pressed" "_law_pressed" s__law_pressed (He.fAd K ("_law_pressed", none)) fd46 := QE.funD_fun F46
  obtain ⟨fd47, F47⟩ := c.def_ 47 (d := ⟨("_law_exchanged", none), "_law_exchanged", "_law_exchanged", defArgs s__law_exchanged, defBody s__law_exchanged, defScope s__law_exchanged, [], []⟩) rfl
  have F47 : L2.Fun K "_law_exchanged" "_law_exchanged" s__law_exchanged (He.fAd K ("_law_exchanged", none)) fd47 := QE.funD_fun F47
  obtain ⟨fd48, F48⟩ := c.def_ 48 (d := ⟨("_law_kept_right", none), "_law_kept_right", "_law_kept_right", defArgs s__law_kept_right, defBody s__law_kept_right, defScope s__law_kept_right, [], []⟩) rfl
  have F48 : L2.Fun K "_law_kept_right" "_law_kept_right" s__law_kept_right (He.fAd K ("_law_kept_right", none)) fd48 := QE.funD_fun F48
  obtain ⟨fd49, F49⟩ := c.def_ 49 (d := ⟨("_law_ones_right", none), "_law_ones_right", "_law_ones_right", defArgs s__law_ones_right, defBody s__law_ones_right, defScope s__law_ones_right, [], []⟩) rfl
  have F49 : L2.Fun K "_law_ones_right" "_law_ones_right" s__law_ones_right (He.fAd K ("_law_ones_right", none)) fd49 := QE.funD_fun F49
  obtain ⟨fd50, F50⟩ := c.def_ 50 (d := ⟨("law", none), "law", "law", defArgs s_law, defBody s_law, defScope s_law, [], []⟩) rfl
  have F50 : L2.Fun K "law" "law" s_law (He.fAd K ("law", none)) fd50 := QE.funD_fun F50
  obtain ⟨fd51, F51⟩ := c.def_ 51 (d := ⟨("InvalidTags", some "__init__"), "__init__", "InvalidTags.__init__", defArgs s_InvalidTags___init__, defBody s_InvalidTags___init__, defScope s_InvalidTags___init__, [], []⟩) rfl
  have F51 : L2.Fun K "__init__" "InvalidTags.__init__" s_InvalidTags___init__ (He.fAd K ("InvalidTags", some "__init__")) fd51 := QE.funD_fun F51
  obtain ⟨fd52, F52⟩ := c.def_ 52 (d := ⟨("InvalidSubject", some "__init__"), "__init__", "InvalidSubject.__init__", defArgs s_InvalidSubject___init__, defBody s_InvalidSubject___init__, defScope s_InvalidSubject___init__, [], []⟩) rfl
  have F52 : L2.Fun K "__init__" "InvalidSubject.__init__" s_InvalidSubject___init__ (He.fAd K ("InvalidSubject", some "__init__")) fd52 := QE.funD_fun F52
  obtain ⟨fd53, F53⟩ := c.def_ 53 (d := ⟨("InvalidEater", some "__init__"), "__init__", "InvalidEater.__init__", defArgs s_InvalidEater___init__, defBody s_InvalidEater___init__, defScope s_InvalidEater___init__, [], []⟩) rfl
  have F53 : L2.Fun K "__init__" "InvalidEater.__init__" s_InvalidEater___init__ (He.fAd K ("InvalidEater", some "__init__")) fd53 := QE.funD_fun F53
  obtain ⟨fd54, F54⟩ := c.def_ 54 (d := ⟨("InvalidTag", some "__init__"), "__init__", "InvalidTag.__init__", defArgs s_InvalidTag___init__, defBody s_InvalidTag___init__, defScope s_InvalidTag___init__, [], []⟩) rfl
  have F54 : L2.Fun K "__init__" "InvalidTag.__init__" s_InvalidTag___init__ (He.fAd K ("InvalidTag", some "__init__")) fd54 := QE.funD_fun F54
  obtain ⟨fd55, F55⟩ := c.def_ 55 (d := ⟨("InvalidPairs", some "__init__"), "__init__", "InvalidPairs.__init__", defArgs s_InvalidPairs___init__, defBody s_InvalidPairs___init__, defScope s_InvalidPairs___init__, [], []⟩) rfl
  have F55 : L2.Fun K "__init__" "InvalidPairs.__init__" s_InvalidPairs___init__ (He.fAd K ("InvalidPairs", some "__init__")) fd55 := QE.funD_fun F55
  obtain ⟨fd56, F56⟩ := c.def_ 56 (d := ⟨("InvalidNumber", some "__init__"), "__init__", "InvalidNumber.__init__", defArgs s_InvalidNumber___init__, defBody s_InvalidNumber___init__, defScope s_InvalidNumber___init__, [], []⟩) rfl
  have F56 : L2.Fun K "__init__" "InvalidNumber.__init__" s_InvalidNumber___init__ (He.fAd K ("InvalidNumber", some "__init__")) fd56 := QE.funD_fun F56
  obtain ⟨fd57, F57⟩ := c.def_ 57 (d := ⟨("TooMany", some "__init__"), "__init__", "TooMany.__init__", defArgs s_TooMany___init__, defBody s_TooMany___init__, defScope s_TooMany___init__, [], []⟩) rfl
  have F57 : L2.Fun K "__init__" "TooMany.__init__" s_TooMany___init__ (He.fAd K ("TooMany", some "__init__")) fd57 := QE.funD_fun F57
  obtain ⟨fd58, F58⟩ := c.def_ 58 (d := ⟨("Eater", some "__init__"), "__init__", "Eater.__init__", defArgs s_Eater___init__, defBody s_Eater___init__, defScope s_Eater___init__, [], []⟩) rfl
  have F58 : L2.Fun K "__init__" "Eater.__init__" s_Eater___init__ (He.fAd K ("Eater", some "__init__")) fd58 := QE.funD_fun F58
  obtain ⟨fd59, F59⟩ := c.def_ 59 (d := ⟨("Eater", some "__len__"), "__len__", "Eater.__len__", defArgs s_Eater___len__, defBody s_Eater___len__, defScope s_Eater___len__, [], []⟩) rfl
  have F59 : L2.Fun K "__len__" "Eater.__len__" s_Eater___len__ (He.fAd K ("Eater", some "__len__")) fd59 := QE.funD_fun F59
  obtain ⟨fd60, F60⟩ := c.def_ 60 (d := ⟨("Eater", some "__eq__"), "__eq__", "Eater.__eq__", defArgs s_Eater___eq__, defBody s_Eater___eq__, defScope s_Eater___eq__, [], []⟩) rfl
  have F60 : L2.Fun K "__eq__" "Eater.__eq__" s_Eater___eq__ (He.fAd K ("Eater", some "__eq__")) fd60 := QE.funD_fun F60
  obtain ⟨fd61, F61⟩ := c.def_ 61 (d := ⟨("Eater", some "__contains__"), "__contains__", "Eater.__contains__", defArgs s_Eater___contains__, defBody s_Eater___contains__, defScope s_Eater___contains__, [], []⟩) rfl
  have F61 : L2.Fun K "__contains__" "Eater.__contains__" s_Eater___contains__ (He.fAd K ("Eater", some "__contains__")) fd61 := QE.funD_fun F61
  obtain ⟨fd62, F62⟩ := c.def_ 62 (d := ⟨("Eater", some "tags"), "tags", "Eater.tags", defArgs s_Eater_tags, defBody s_Eater_tags, defScope s_Eater_tags, [], []⟩) rfl
  have F62 : L2.Fun K "tags" "Eater.tags" s_Eater_tags (He.fAd K ("Eater", some "tags")) fd62 := QE.funD_fun F62
  obtain ⟨fd63, F63⟩ := c.def_ 63 (d := ⟨("Eater", some "standings"), "standings", "Eater.standings", defArgs s_Eater_standings, defBody s_Eater_standings, defScope s_Eater_standings, [], []⟩) rfl
  have F63 : L2.Fun K "standings" "Eater.standings" s_Eater_standings (He.fAd K ("Eater", some "standings")) fd63 := QE.funD_fun F63
  obtain ⟨fd64, F64⟩ := c.def_ 64 (d := ⟨("Eater", some "on"), "on", "Eater.on", defArgs s_Eater_on, defBody s_Eater_on, defScope s_Eater_on, [], []⟩) rfl
  have F64 : L2.Fun K "on" "Eater.on" s_Eater_on (He.fAd K ("Eater", some "on")) fd64 := QE.funD_fun F64
  obtain ⟨fd65, F65⟩ := c.def_ 65 (d := ⟨("Eater", some "settled"), "settled", "Eater.settled", defArgs s_Eater_settled, defBody s_Eater_settled, defScope s_Eater_settled, [], []⟩) rfl
  have F65 : L2.Fun K "settled" "Eater.settled" s_Eater_settled (He.fAd K ("Eater", some "settled")) fd65 := QE.funD_fun F65
  obtain ⟨fd66, F66⟩ := c.def_ 66 (d := ⟨("Eater", some "then"), "then", "Eater.then", defArgs s_Eater_then, defBody s_Eater_then, defScope s_Eater_then, [], []⟩) rfl
  have F66 : L2.Fun K "then" "Eater.then" s_Eater_then (He.fAd K ("Eater", some "then")) fd66 := QE.funD_fun F66
  obtain ⟨fd67, F67⟩ := c.def_ 67 (d := ⟨("Eater", some "power"), "power", "Eater.power", defArgs s_Eater_power, defBody s_Eater_power, defScope s_Eater_power, [], []⟩) rfl
  have F67 : L2.Fun K "power" "Eater.power" s_Eater_power (He.fAd K ("Eater", some "power")) fd67 := QE.funD_fun F67
  obtain ⟨b_own_Eater, ce⟩ := He.ba ce
  obtain ⟨b_x_InvalidTags, ce⟩ := He.ba ce
  obtain ⟨b_x_InvalidSubject, ce⟩ := He.ba ce
  obtain ⟨b_x_InvalidEater, ce⟩ := He.ba ce
  obtain ⟨b_x_InvalidTag, ce⟩ := He.ba ce
  obtain ⟨b_x_InvalidPairs, ce⟩ := He.ba ce
  obtain ⟨b_x_InvalidNumber, ce⟩ := He.ba ce
  obtain ⟨b_x_TooMany, ce⟩ := He.ba ce
  obtain ⟨b_e_InvalidTags, ce⟩ := He.ba ce
  obtain ⟨b_v_InvalidTags, ce⟩ := He.ba ce
  obtain ⟨b_i_InvalidTags_TagError, ce⟩ := He.ba ce
  obtain ⟨b_i_InvalidTags_InvalidTags, ce⟩ := He.ba ce
  obtain ⟨b_i_InvalidTags_InvalidSubject, ce⟩ := He.ba ce
  obtain ⟨b_i_InvalidTags_InvalidEater, ce⟩ := He.ba ce
  obtain ⟨b_i_InvalidTags_InvalidTag, ce⟩ := He.ba ce
  obtain ⟨b_i_InvalidTags_InvalidPairs, ce⟩ := He.ba ce
  obtain ⟨b_i_InvalidTags_InvalidNumber, ce⟩ := He.ba ce
  obtain ⟨b_i_InvalidTags_UnlikeTags, ce⟩ := He.ba ce
  obtain ⟨b_i_InvalidTags_TooMany, ce⟩ := He.ba ce
  obtain ⟨b_e_InvalidSubject, ce⟩ := He.ba ce
  obtain ⟨b_v_InvalidSubject, ce⟩ := He.ba ce
  obtain ⟨b_i_InvalidSubject_TagError, ce⟩ := He.ba ce
  obtain ⟨b_i_InvalidSubject_InvalidTags, ce⟩ := He.ba ce
  obtain ⟨b_i_InvalidSubject_InvalidSubject, ce⟩ := He.ba ce
  obtain ⟨b_i_InvalidSubject_InvalidEater, ce⟩ := He.ba ce
  obtain ⟨b_i_InvalidSubject_InvalidTag, ce⟩ := He.ba ce
  obtain ⟨b_i_InvalidSubject_InvalidPairs, ce⟩ := He.ba ce
  obtain ⟨b_i_InvalidSubject_InvalidNumber, ce⟩ := He.ba ce
  obtain ⟨b_i_InvalidSubject_UnlikeTags, ce⟩ := He.ba ce
  obtain ⟨b_i_InvalidSubject_TooMany, ce⟩ := He.ba ce
  obtain ⟨b_e_InvalidEater, ce⟩ := He.ba ce
  obtain ⟨b_v_InvalidEater, ce⟩ := He.ba ce
  obtain ⟨b_i_InvalidEater_TagError, ce⟩ := He.ba ce
  obtain ⟨b_i_InvalidEater_InvalidTags, ce⟩ := He.ba ce
  obtain ⟨b_i_InvalidEater_InvalidSubject, ce⟩ := He.ba ce
  obtain ⟨b_i_InvalidEater_InvalidEater, ce⟩ := He.ba ce
  obtain ⟨b_i_InvalidEater_InvalidTag, ce⟩ := He.ba ce
  obtain ⟨b_i_InvalidEater_InvalidPairs, ce⟩ := He.ba ce
  obtain ⟨b_i_InvalidEater_InvalidNumber, ce⟩ := He.ba ce
  obtain ⟨b_i_InvalidEater_UnlikeTags, ce⟩ := He.ba ce
  obtain ⟨b_i_InvalidEater_TooMany, ce⟩ := He.ba ce
  obtain ⟨b_e_InvalidTag, ce⟩ := He.ba ce
  obtain ⟨b_v_InvalidTag, ce⟩ := He.ba ce
  obtain ⟨b_i_InvalidTag_TagError, ce⟩ := He.ba ce
  obtain ⟨b_i_InvalidTag_InvalidTags, ce⟩ := He.ba ce
  obtain ⟨b_i_InvalidTag_InvalidSubject, ce⟩ := He.ba ce
  obtain ⟨b_i_InvalidTag_InvalidEater, ce⟩ := He.ba ce
  obtain ⟨b_i_InvalidTag_InvalidTag, ce⟩ := He.ba ce
  obtain ⟨b_i_InvalidTag_InvalidPairs, ce⟩ := He.ba ce
  obtain ⟨b_i_InvalidTag_InvalidNumber, ce⟩ := He.ba ce
  obtain ⟨b_i_InvalidTag_UnlikeTags, ce⟩ := He.ba ce
  obtain ⟨b_i_InvalidTag_TooMany, ce⟩ := He.ba ce
  obtain ⟨b_e_InvalidPairs, ce⟩ := He.ba ce
  obtain ⟨b_v_InvalidPairs, ce⟩ := He.ba ce
  obtain ⟨b_i_InvalidPairs_TagError, ce⟩ := He.ba ce
  obtain ⟨b_i_InvalidPairs_InvalidTags, ce⟩ := He.ba ce
  obtain ⟨b_i_InvalidPairs_InvalidSubject, ce⟩ := He.ba ce
  obtain ⟨b_i_InvalidPairs_InvalidEater, ce⟩ := He.ba ce
  obtain ⟨b_i_InvalidPairs_InvalidTag, ce⟩ := He.ba ce
  obtain ⟨b_i_InvalidPairs_InvalidPairs, ce⟩ := He.ba ce
  obtain ⟨b_i_InvalidPairs_InvalidNumber, ce⟩ := He.ba ce
  obtain ⟨b_i_InvalidPairs_UnlikeTags, ce⟩ := He.ba ce
  obtain ⟨b_i_InvalidPairs_TooMany, ce⟩ := He.ba ce
  obtain ⟨b_e_InvalidNumber, ce⟩ := He.ba ce
  obtain ⟨b_v_InvalidNumber, ce⟩ := He.ba ce
  obtain ⟨b_i_InvalidNumber_TagError, ce⟩ := He.ba ce
  obtain ⟨b_i_InvalidNumber_InvalidTags, ce⟩ := He.ba ce
  obtain ⟨b_i_InvalidNumber_InvalidSubject, ce⟩ := He.ba ce
  obtain ⟨b_i_InvalidNumber_InvalidEater, ce⟩ := He.ba ce
  obtain ⟨b_i_InvalidNumber_InvalidTag, ce⟩ := He.ba ce
  obtain ⟨b_i_InvalidNumber_InvalidPairs, ce⟩ := He.ba ce
  obtain ⟨b_i_InvalidNumber_InvalidNumber, ce⟩ := He.ba ce
  obtain ⟨b_i_InvalidNumber_UnlikeTags, ce⟩ := He.ba ce
  obtain ⟨b_i_InvalidNumber_TooMany, ce⟩ := He.ba ce
  obtain ⟨b_e_UnlikeTags, ce⟩ := He.ba ce
  obtain ⟨b_v_UnlikeTags, ce⟩ := He.ba ce
  obtain ⟨b_i_UnlikeTags_TagError, ce⟩ := He.ba ce
  obtain ⟨b_i_UnlikeTags_InvalidTags, ce⟩ := He.ba ce
  obtain ⟨b_i_UnlikeTags_InvalidSubject, ce⟩ := He.ba ce
  obtain ⟨b_i_UnlikeTags_InvalidEater, ce⟩ := He.ba ce
  obtain ⟨b_i_UnlikeTags_InvalidTag, ce⟩ := He.ba ce
  obtain ⟨b_i_UnlikeTags_InvalidPairs, ce⟩ := He.ba ce
  obtain ⟨b_i_UnlikeTags_InvalidNumber, ce⟩ := He.ba ce
  obtain ⟨b_i_UnlikeTags_UnlikeTags, ce⟩ := He.ba ce
  obtain ⟨b_i_UnlikeTags_TooMany, ce⟩ := He.ba ce
  obtain ⟨b_e_TooMany, ce⟩ := He.ba ce
  obtain ⟨b_v_TooMany, ce⟩ := He.ba ce
  obtain ⟨b_i_TooMany_TagError, ce⟩ := He.ba ce
  obtain ⟨b_i_TooMany_InvalidTags, ce⟩ := He.ba ce
  obtain ⟨b_i_TooMany_InvalidSubject, ce⟩ := He.ba ce
  obtain ⟨b_i_TooMany_InvalidEater, ce⟩ := He.ba ce
  obtain ⟨b_i_TooMany_InvalidTag, ce⟩ := He.ba ce
  obtain ⟨b_i_TooMany_InvalidPairs, ce⟩ := He.ba ce
  obtain ⟨b_i_TooMany_InvalidNumber, ce⟩ := He.ba ce
  obtain ⟨b_i_TooMany_UnlikeTags, ce⟩ := He.ba ce
  have b_i_TooMany_TooMany := ce
  exact ⟨{
    n_abs := He.free_ok X0 G (c.fact 0 (f := .free "abs") rfl),
    n_all := He.free_ok X0 G (c.fact 1 (f := .free "all") rfl),
    n_any := He.free_ok X0 G (c.fact 2 (f := .free "any") rfl),
    n_bool := He.free_ok X0 G (c.fact 3 (f := .free "bool") rfl),
    n_enumerate := He.free_ok X0 G (c.fact 4 (f := .free "enumerate") rfl),
    n_int := He.free_ok X0 G (c.fact 5 (f := .free "int") rfl),
    n_isinstance := He.free_ok X0 G (c.fact 6 (f := .free "isinstance") rfl),
    n_len := He.free_ok X0 G (c.fact 7 (f := .free "len") rfl),
    n_list := He.free_ok X0 G (c.fact 8 (f := .free "list") rfl),
    n_max := He.free_ok X0 G (c.fact 9 (f := .free "max") rfl),
    n_range := He.free_ok X0 G (c.fact 10 (f := .free "range") rfl),
    n_repr := He.free_ok X0 G (c.fact 11 (f := .free "repr") rfl),
    n_set := He.free_ok X0 G (c.fact 12 (f := .free "set") rfl),
    n_sorted := He.free_ok X0 G (c.fact 13 (f := .free "sorted") rfl),
    n_str := He.free_ok X0 G (c.fact 14 (f := .free "str") rfl),
    n_tuple := He.free_ok X0 G (c.fact 15 (f := .free "tuple") rfl),
    n_zip := He.free_ok X0 G (c.fact 16 (f := .free "zip") rfl),
    c_LETTERS := (let ⟨t, h⟩ := He.str_ok X0 G (c.fact 17 (f := .str "LETTERS" "abcdefghijklmnopqrstuvwxyz") rfl); ⟨_, h, t, rfl⟩),
    c_MOST_LETTERS := (let ⟨t, h⟩ := He.int_ok X0 G (c.fact 18 (f := .int "MOST_LETTERS" 8) rfl); ⟨_, h, t, rfl⟩),
    c_MOST_TAGS := (let ⟨t, h⟩ := He.int_ok X0 G (c.fact 19 (f := .int "MOST_TAGS" 6) rfl); ⟨_, h, t, rfl⟩),
    c_MOST_STANDINGS := (let ⟨t, h⟩ := He.int_ok X0 G (c.fact 20 (f := .int "MOST_STANDINGS" 30) rfl); ⟨_, h, t, rfl⟩),
    c_LONGEST_WORD := (let ⟨t, h⟩ := He.int_ok X0 G (c.fact 21 (f := .int "LONGEST_WORD" 8) rfl); ⟨_, h, t, rfl⟩),
    c_LONGEST_SUBJECT := (let ⟨t, h⟩ := He.int_ok X0 G (c.fact 22 (f := .int "LONGEST_SUBJECT" 200) rfl); ⟨_, h, t, rfl⟩),
    c_MOST_TIMES := (let ⟨t, h⟩ := He.int_ok X0 G (c.fact 23 (f := .int "MOST_TIMES" 12) rfl); ⟨_, h, t, rfl⟩),
    c_LARGEST := (let ⟨t, h⟩ := He.int_ok X0 G (c.fact 24 (f := .int "LARGEST" 200) rfl); ⟨_, h, t, rfl⟩),
    c_LARGEST_MOST := (let ⟨t, h⟩ := He.int_ok X0 G (c.fact 25 (f := .int "LARGEST_MOST" 20) rfl); ⟨_, h, t, rfl⟩),
    d_is_number := { a := He.fAd K ("is_number", none), fd := fd0, F := F0, b := F0.binds fun _ _ _ _ _ _ us hl => match us, hl with | [_, _, _], _ => rfl, mg := He.glo_ok X0 G (c.fact 26 (f := .glo "is_number") rfl) },
    d_is_list := { a := He.fAd K ("is_list", none), fd := fd1, F := F1, b := F1.binds fun _ _ _ _ _ _ us hl => match us, hl with | [_, _, _], _ => rfl, mg := He.glo_ok X0 G (c.fact 27 (f := .glo "is_list") rfl) },
    d_is_name := { a := He.fAd K ("is_name", none), fd := fd2, F := F2, b := F2.binds fun _ _ _ _ _ _ us hl => match us, hl with | [_], _ => rfl, mg := He.glo_ok X0 G (c.fact 28 (f := .glo "is_name") rfl) },
    d_is_tag := { a := He.fAd K ("is_tag", none), fd := fd3, F := F3, b := F3.binds fun _ _ _ _ _ _ us hl => match us, hl with | [_, _], _ => rfl, mg := He.glo_ok X0 G (c.fact 29 (f := .glo "is_tag") rfl) },
    d_is_subject := { a := He.fAd K ("is_subject", none), fd := fd4, F := F4, b := F4.binds fun _ _ _ _ _ _ us hl => match us, hl with | [_, _], _ => rfl, mg := He.glo_ok X0 G (c.fact 30 (f := .glo "is_subject") rfl) },
    d_is_standing := { a := He.fAd K ("is_standing", none), fd := fd5, F := F5, b := F5.binds fun _ _ _ _ _ _ us hl => match us, hl with | [_, _, _], _ => rfl, mg := He.glo_ok X0 G (c.fact 31 (f := .glo "is_standing") rfl) },
    d_check_tags := { a := He.fAd K ("check_tags", none), fd := fd6, F := F6, b := F6.binds fun _ _ _ _ _ _ us hl => match us, hl with | [_], _ => rfl, mg := He.glo_ok X0 G (c.fact 32 (f := .glo "check_tags") rfl) },
    d_check_word := { a := He.fAd K ("check_word", none), fd := fd7, F := F7, b := F7.binds fun _ _ _ _ _ _ us hl => match us, hl with | [_, _, _], _ => rfl, mg := He.glo_ok X0 G (c.fact 33 (f := .glo "check_word") rfl) },
    d_check_standings := { a := He.fAd K ("check_standings", none), fd := fd8, F := F8, b := F8.binds fun _ _ _ _ _ _ us hl => match us, hl with | [_, _], _ => rfl, mg := He.glo_ok X0 G (c.fact 34 (f := .glo "check_standings") rfl) },
    d_check_number := { a := He.fAd K ("check_number", none), fd := fd9, F := F9, b := F9.binds fun _ _ _ _ _ _ us hl => match us, hl with | [_, _], _ => rfl, mg := He.glo_ok X0 G (c.fact 35 (f := .glo "check_number") rfl) },
    d_no_ways := { a := He.fAd K ("no_ways", none), fd := fd10, F := F10, b := F10.binds fun _ _ _ _ _ _ us hl => match us, hl with | [_], _ => rfl, mg := He.glo_ok X0 G (c.fact 36 (f := .glo "no_ways") rfl) },
    d_walked := { a := He.fAd K ("walked", none), fd := fd11, F := F11, b := F11.binds fun _ _ _ _ _ _ us hl => match us, hl with | [_, _, _], _ => rfl, mg := He.glo_ok X0 G (c.fact 37 (f := .glo "walked") rfl) },
    d_made := { a := He.fAd K ("made", none), fd := fd12, F := F12, b := F12.binds fun _ _ _ _ _ _ us hl => match us, hl with | [_, _, _], _ => rfl, mg := He.glo_ok X0 G (c.fact 38 (f := .glo "made") rfl) },
    d_is_settled_at := { a := He.fAd K ("is_settled_at", none), fd := fd13, F := F13, b := F13.binds fun _ _ _ _ _ _ us hl => match us, hl with | [_], _ => rfl, mg := He.glo_ok X0 G (c.fact 39 (f := .glo "is_settled_at") rfl) },
    d_is_made_at := { a := He.fAd K ("is_made_at", none), fd := fd14, F := F14, b := F14.binds fun _ _ _ _ _ _ us hl => match us, hl with | [_, _, _], _ => rfl, mg := He.glo_ok X0 G (c.fact 40 (f := .glo "is_made_at") rfl) },
    d_copied := { a := He.fAd K ("copied", none), fd := fd15, F := F15, b := F15.binds fun _ _ _ _ _ _ us hl => match us, hl with | [_], _ => rfl, mg := He.glo_ok X0 G (c.fact 41 (f := .glo "copied") rfl) },
    d_without_needless_ways := { a := He.fAd K ("without_needless_ways", none), fd := fd16, F := F16, b := F16.binds fun _ _ _ _ _ _ us hl => match us, hl with | [_, _], _ => rfl, mg := He.glo_ok X0 G (c.fact 42 (f := .glo "without_needless_ways") rfl) },
    d_numbered := { a := He.fAd K ("numbered", none), fd := fd17, F := F17, b := F17.binds fun _ _ _ _ _ _ us hl => match us, hl with | [_], _ => rfl, mg := He.glo_ok X0 G (c.fact 43 (f := .glo "numbered") rfl) },
    d_parted := { a := He.fAd K ("parted", none), fd := fd18, F := F18, b := F18.binds fun _ _ _ _ _ _ us hl => match us, hl with | [_, _], _ => rfl, mg := He.glo_ok X0 G (c.fact 44 (f := .glo "parted") rfl) },
    d_alike_classes := { a := He.fAd K ("alike_classes", none), fd := fd19, F := F19, b := F19.binds fun _ _ _ _ _ _ us hl => match us, hl with | [_], _ => rfl, mg := He.glo_ok X0 G (c.fact 45 (f := .glo "alike_classes") rfl) },
    d_in_order_met := { a := He.fAd K ("in_order_met", none), fd := fd20, F := F20, b := F20.binds fun _ _ _ _ _ _ us hl => match us, hl with | [_, _], _ => rfl, mg := He.glo_ok X0 G (c.fact 46 (f := .glo "in_order_met") rfl) },
    d_least_form := { a := He.fAd K ("least_form", none), fd := fd21, F := F21, b := F21.binds fun _ _ _ _ _ _ us hl => match us, hl with | [_, _], _ => rfl, mg := He.glo_ok X0 G (c.fact 47 (f := .glo "least_form") rfl) },
    d_moved := { a := He.fAd K ("moved", none), fd := fd22, F := F22, b := F22.binds fun _ _ _ _ _ _ us hl => match us, hl with | [_, _], _ => rfl, mg := He.glo_ok X0 G (c.fact 48 (f := .glo "moved") rfl) },
    d_one_behind_other := { a := He.fAd K ("one_behind_other", none), fd := fd23, F := F23, b := F23.binds fun _ _ _ _ _ _ us hl => match us, hl with | [_, _, _], _ => rfl, mg := He.glo_ok X0 G (c.fact 49 (f := .glo "one_behind_other") rfl) },
    d_eater_of := { a := He.fAd K ("eater_of", none), fd := fd24, F := F24, b := F24.binds fun _ _ _ _ _ _ us hl => match us, hl with | [_, _], _ => rfl, mg := He.glo_ok X0 G (c.fact 50 (f := .glo "eater_of") rfl) },
    d_small_form := { a := He.fAd K ("small_form", none), fd := fd25, F := F25, b := F25.binds fun _ _ _ _ _ _ us hl => match us, hl with | [_], _ => rfl, mg := He.glo_ok X0 G (c.fact 51 (f := .glo "small_form") rfl) },
    d_check_same_tags := { a := He.fAd K ("check_same_tags", none), fd := fd26, F := F26, b := F26.binds fun _ _ _ _ _ _ us hl => match us, hl with | [_, _], _ => rfl, mg := He.glo_ok X0 G (c.fact 52 (f := .glo "check_same_tags") rfl) },
    d_powers := { a := He.fAd K ("powers", none), fd := fd27, F := F27, b := F27.binds fun _ _ _ _ _ _ us hl => match us, hl with | [_, _], _ => rfl, mg := He.glo_ok X0 G (c.fact 53 (f := .glo "powers") rfl) },
    d_is_settled := { a := He.fAd K ("is_settled", none), fd := fd28, F := F28, b := F28.binds fun _ _ _ _ _ _ us hl => match us, hl with | [_], _ => rfl, mg := He.glo_ok X0 G (c.fact 54 (f := .glo "is_settled") rfl) },
    d_check_tag := { a := He.fAd K ("check_tag", none), fd := fd29, F := F29, b := F29.binds fun _ _ _ _ _ _ us hl => match us, hl with | [_, _], _ => rfl, mg := He.glo_ok X0 G (c.fact 55 (f := .glo "check_tag") rfl) },
    d_check_some := { a := He.fAd K ("check_some", none), fd := fd30, F := F30, b := F30.binds fun _ _ _ _ _ _ us hl => match us, hl with | [_, _], _ => rfl, mg := He.glo_ok X0 G (c.fact 56 (f := .glo "check_some") rfl) },
    d_is_pair := { a := He.fAd K ("is_pair", none), fd := fd31, F := F31, b := F31.binds fun _ _ _ _ _ _ us hl => match us, hl with | [_, _], _ => rfl, mg := He.glo_ok X0 G (c.fact 57 (f := .glo "is_pair") rfl) },
    d_check_pairs := { a := He.fAd K ("check_pairs", none), fd := fd32, F := F32, b := F32.binds fun _ _ _ _ _ _ us hl => match us, hl with | [_, _], _ => rfl, mg := He.glo_ok X0 G (c.fact 58 (f := .glo "check_pairs") rfl) },
    d_ways_for := { a := He.fAd K ("ways_for", none), fd := fd33, F := F33, b := F33.binds fun _ _ _ _ _ _ us hl => match us, hl with | [_, _, _], _ => rfl, mg := He.glo_ok X0 G (c.fact 59 (f := .glo "ways_for") rfl) },
    d_keep := { a := He.fAd K ("keep", none), fd := fd34, F := F34, b := F34.binds fun _ _ _ _ _ _ us hl => match us, hl with | [_], _ => rfl, mg := He.glo_ok X0 G (c.fact 60 (f := .glo "keep") rfl) },
    d_put := { a := He.fAd K ("put", none), fd := fd35, F := F35, b := F35.binds fun _ _ _ _ _ _ us hl => match us, hl with | [_, _], _ => rfl, mg := He.glo_ok X0 G (c.fact 61 (f := .glo "put") rfl) },
    d_strip := { a := He.fAd K ("strip", none), fd := fd36, F := F36, b := F36.binds fun _ _ _ _ _ _ us hl => match us, hl with | [_, _, _], _ => rfl, mg := He.glo_ok X0 G (c.fact 62 (f := .glo "strip") rfl) },
    d_once := { a := He.fAd K ("once", none), fd := fd37, F := F37, b := F37.binds fun _ _ _ _ _ _ us hl => match us, hl with | [_, _], _ => rfl, mg := He.glo_ok X0 G (c.fact 63 (f := .glo "once") rfl) },
    d_exchange := { a := He.fAd K ("exchange", none), fd := fd38, F := F38, b := F38.binds fun _ _ _ _ _ _ us hl => match us, hl with | [_, _], _ => rfl, mg := He.glo_ok X0 G (c.fact 64 (f := .glo "exchange") rfl) },
    d_press := { a := He.fAd K ("press", none), fd := fd39, F := F39, b := F39.binds fun _ _ _ _ _ _ us hl => match us, hl with | [_, _, _], _ => rfl, mg := He.glo_ok X0 G (c.fact 65 (f := .glo "press") rfl) },
    d__law_mixed := { a := He.fAd K ("_law_mixed", none), fd := fd40, F := F40, b := F40.binds fun _ _ _ _ _ _ us hl => match us, hl with | [_, _], _ => rfl, mg := He.glo_ok X0 G (c.fact 66 (f := .glo "_law_mixed") rfl) },
    d__law_pile := { a := He.fAd K ("_law_pile", none), fd := fd41, F := F41, b := F41.binds fun _ _ _ _ _ _ us hl => match us, hl with | [_, _], _ => rfl, mg := He.glo_ok X0 G (c.fact 67 (f := .glo "_law_pile") rfl) },
    d__law_take := { a := He.fAd K ("_law_take", none), fd := fd42, F := F42, b := F42.binds fun _ _ _ _ _ _ us hl => match us, hl with | [_, _], _ => rfl, mg := He.glo_ok X0 G (c.fact 68 (f := .glo "_law_take") rfl) },
    d__law_tags := { a := He.fAd K ("_law_tags", none), fd := fd43, F := F43, b := F43.binds fun _ _ _ _ _ _ us hl => match us, hl with | [_, _], _ => rfl, mg := He.glo_ok X0 G (c.fact 69 (f := .glo "_law_tags") rfl) },
    d__law_subject := { a := He.fAd K ("_law_subject", none), fd := fd44, F := F44, b := F44.binds fun _ _ _ _ _ _ us hl => match us, hl with | [_, _, _], _ => rfl, mg := He.glo_ok X0 G (c.fact 70 (f := .glo "_law_subject") rfl) },
    d__law_stripped := { a := He.fAd K ("_law_stripped", none), fd := fd45, F := F45, b := F45.binds fun _ _ _ _ _ _ us hl => match us, hl with | [_, _, _], _ => rfl, mg := He.glo_ok X0 G (c.fact 71 (f := .glo "_law_stripped") rfl) },
    d__law_pressed := { a := He.fAd K ("_law_pressed", none), fd := fd46, F := F46, b := F46.binds fun _ _ _ _ _ _ us hl => match us, hl with | [_, _, _], _ => rfl, mg := He.glo_ok X0 G (c.fact 72 (f := .glo "_law_pressed") rfl) },
    d__law_exchanged := { a := He.fAd K ("_law_exchanged", none), fd := fd47, F := F47, b := F47.binds fun _ _ _ _ _ _ us hl => match us, hl with | [_, _], _ => rfl, mg := He.glo_ok X0 G (c.fact 73 (f := .glo "_law_exchanged") rfl) },
    d__law_kept_right := { a := He.fAd K ("_law_kept_right", none), fd := fd48, F := F48, b := F48.binds fun _ _ _ _ _ _ us hl => match us, hl with | [_, _], _ => rfl, mg := He.glo_ok X0 G (c.fact 74 (f := .glo "_law_kept_right") rfl) },
    d__law_ones_right := { a := He.fAd K ("_law_ones_right", none), fd := fd49, F := F49, b := F49.binds fun _ _ _ _ _ _ us hl => match us, hl with | [_, _, _], _ => rfl, mg := He.glo_ok X0 G (c.fact 75 (f := .glo "_law_ones_right") rfl) },
    d_law := { a := He.fAd K ("law", none), fd := fd50, F := F50, b := F50.binds fun _ _ _ _ _ _ us hl => match us, hl with | [_], _ => rfl, mg := He.glo_ok X0 G (c.fact 76 (f := .glo "law") rfl) },
    lam_c := He.codeOf K ("without_needless_ways", none),
    lam_P := He.tabOf K (He.codeOf K ("without_needless_ways", none)),
    lam_F := G16,
    e_TagError := He.ga K "TagError",
    me_TagError := He.glo_ok X0 G (c.fact 77 (f := .glo "TagError") rfl),
    e_InvalidTags := He.ga K "InvalidTags",
    me_InvalidTags := He.glo_ok X0 G (c.fact 78 (f := .glo "InvalidTags") rfl),
    d_InvalidTags___init__ := { a := He.fAd K ("InvalidTags", some "__init__"), fd := fd51, F := F51, b := F51.binds fun _ _ _ _ _ _ us hl => match us, hl with | [_, _], _ => rfl },
    xt_InvalidTags := QX.excTB_ok b_x_InvalidTags,
    e_InvalidSubject := He.ga K "InvalidSubject",
    me_InvalidSubject := He.glo_ok X0 G (c.fact 79 (f := .glo "InvalidSubject") rfl),
    d_InvalidSubject___init__ := { a := He.fAd K ("InvalidSubject", some "__init__"), fd := fd52, F := F52, b := F52.binds fun _ _ _ _ _ _ us hl => match us, hl with | [_, _], _ => rfl },
    xt_InvalidSubject := QX.excTB_ok b_x_InvalidSubject,
    e_InvalidEater := He.ga K "InvalidEater",
    me_InvalidEater := He.glo_ok X0 G (c.fact 80 (f := .glo "InvalidEater") rfl),
    d_InvalidEater___init__ := { a := He.fAd K ("InvalidEater", some "__init__"), fd := fd53, F := F53, b := F53.binds fun _ _ _ _ _ _ us hl => match us, hl with | [_, _], _ => rfl },
    xt_InvalidEater := QX.excTB_ok b_x_InvalidEater,
    e_InvalidTag := He.ga K "InvalidTag",
    me_InvalidTag := He.glo_ok X0 G (c.fact 81 (f := .glo "InvalidTag") rfl),
    d_InvalidTag___init__ := { a := He.fAd K ("InvalidTag", some "__init__"), fd := fd54, F := F54, b := F54.binds fun _ _ _ _ _ _ us hl => match us, hl with | [_, _], _ => rfl },
    xt_InvalidTag := QX.excTB_ok b_x_InvalidTag,
    e_InvalidPairs := He.ga K "InvalidPairs",
    me_InvalidPairs := He.glo_ok X0 G (c.fact 82 (f := .glo "InvalidPairs") rfl),
    d_InvalidPairs___init__ := { a := He.fAd K ("InvalidPairs", some "__init__"), fd := fd55, F := F55, b := F55.binds fun _ _ _ _ _ _ us hl => match us, hl with | [_, _], _ => rfl },
    xt_InvalidPairs := QX.excTB_ok b_x_InvalidPairs,
    e_InvalidNumber := He.ga K "InvalidNumber",
    me_InvalidNumber := He.glo_ok X0 G (c.fact 83 (f := .glo "InvalidNumber") rfl),
    d_InvalidNumber___init__ := { a := He.fAd K ("InvalidNumber", some "__init__"), fd := fd56, F := F56, b := F56.binds fun _ _ _ _ _ _ us hl => match us, hl with | [_, _], _ => rfl },
    xt_InvalidNumber := QX.excTB_ok b_x_InvalidNumber,
    e_UnlikeTags := He.ga K "UnlikeTags",
    me_UnlikeTags := He.glo_ok X0 G (c.fact 84 (f := .glo "UnlikeTags") rfl),
    e_TooMany := He.ga K "TooMany",
    me_TooMany := He.glo_ok X0 G (c.fact 85 (f := .glo "TooMany") rfl),
    d_TooMany___init__ := { a := He.fAd K ("TooMany", some "__init__"), fd := fd57, F := F57, b := F57.binds fun _ _ _ _ _ _ us hl => match us, hl with | [_, _], _ => rfl },
    xt_TooMany := QX.excTB_ok b_x_TooMany,
    ex_InvalidTags := of_decide_eq_true b_e_InvalidTags,
    kv_InvalidTags := of_decide_eq_true b_v_InvalidTags,
    ki_InvalidTags_TagError := of_decide_eq_true b_i_InvalidTags_TagError,
    ki_InvalidTags_InvalidTags := of_decide_eq_true b_i_InvalidTags_InvalidTags,
    ki_InvalidTags_InvalidSubject := of_decide_eq_true b_i_InvalidTags_InvalidSubject,
    ki_InvalidTags_InvalidEater := of_decide_eq_true b_i_InvalidTags_InvalidEater,
    ki_InvalidTags_InvalidTag := of_decide_eq_true b_i_InvalidTags_InvalidTag,
    ki_InvalidTags_InvalidPairs := of_decide_eq_true b_i_InvalidTags_InvalidPairs,
    ki_InvalidTags_InvalidNumber := of_decide_eq_true b_i_InvalidTags_InvalidNumber,
    ki_InvalidTags_UnlikeTags := of_decide_eq_true b_i_InvalidTags_UnlikeTags,
    ki_InvalidTags_TooMany := of_decide_eq_true b_i_InvalidTags_TooMany,
    ex_InvalidSubject := of_decide_eq_true b_e_InvalidSubject,
    kv_InvalidSubject := of_decide_eq_true b_v_InvalidSubject,
    ki_InvalidSubject_TagError := of_decide_eq_true b_i_InvalidSubject_TagError,
    ki_InvalidSubject_InvalidTags := of_decide_eq_true b_i_InvalidSubject_InvalidTags,
    ki_InvalidSubject_InvalidSubject := of_decide_eq_true b_i_InvalidSubject_InvalidSubject,
    ki_InvalidSubject_InvalidEater := of_decide_eq_true b_i_InvalidSubject_InvalidEater,
    ki_InvalidSubject_InvalidTag := of_decide_eq_true b_i_InvalidSubject_InvalidTag,
    ki_InvalidSubject_InvalidPairs := of_decide_eq_true b_i_InvalidSubject_InvalidPairs,
    ki_InvalidSubject_InvalidNumber := of_decide_eq_true b_i_InvalidSubject_InvalidNumber,
    ki_InvalidSubject_UnlikeTags := of_decide_eq_true b_i_InvalidSubject_UnlikeTags,
    ki_InvalidSubject_TooMany := of_decide_eq_true b_i_InvalidSubject_TooMany,
    ex_InvalidEater := of_decide_eq_true b_e_InvalidEater,
    kv_InvalidEater := of_decide_eq_true b_v_InvalidEater,
    ki_InvalidEater_TagError := of_decide_eq_true b_i_InvalidEater_TagError,
    ki_InvalidEater_InvalidTags := of_decide_eq_true b_i_InvalidEater_InvalidTags,
    ki_InvalidEater_InvalidSubject := of_decide_eq_true b_i_InvalidEater_InvalidSubject,
    ki_InvalidEater_InvalidEater := of_decide_eq_true b_i_InvalidEater_InvalidEater,
    ki_InvalidEater_InvalidTag := of_decide_eq_true b_i_InvalidEater_InvalidTag,
    ki_InvalidEater_InvalidPairs := of_decide_eq_true b_i_InvalidEater_InvalidPairs,
    ki_InvalidEater_InvalidNumber := of_decide_eq_true b_i_InvalidEater_InvalidNumber,
    ki_InvalidEater_UnlikeTags := of_decide_eq_true b_i_InvalidEater_UnlikeTags,
    ki_InvalidEater_TooMany := of_decide_eq_true b_i_InvalidEater_TooMany,
    ex_InvalidTag := of_decide_eq_true b_e_InvalidTag,
    kv_InvalidTag := of_decide_eq_true b_v_InvalidTag,
    ki_InvalidTag_TagError := of_decide_eq_true b_i_InvalidTag_TagError,
    ki_InvalidTag_InvalidTags := of_decide_eq_true b_i_InvalidTag_InvalidTags,
    ki_InvalidTag_InvalidSubject := of_decide_eq_true b_i_InvalidTag_InvalidSubject,
    ki_InvalidTag_InvalidEater := of_decide_eq_true b_i_InvalidTag_InvalidEater,
    ki_InvalidTag_InvalidTag := of_decide_eq_true b_i_InvalidTag_InvalidTag,
    ki_InvalidTag_InvalidPairs := of_decide_eq_true b_i_InvalidTag_InvalidPairs,
    ki_InvalidTag_InvalidNumber := of_decide_eq_true b_i_InvalidTag_InvalidNumber,
    ki_InvalidTag_UnlikeTags := of_decide_eq_true b_i_InvalidTag_UnlikeTags,
    ki_InvalidTag_TooMany := of_decide_eq_true b_i_InvalidTag_TooMany,
    ex_InvalidPairs := of_decide_eq_true b_e_InvalidPairs,
    kv_InvalidPairs := of_decide_eq_true b_v_InvalidPairs,
    ki_InvalidPairs_TagError := of_decide_eq_true b_i_InvalidPairs_TagError,
    ki_InvalidPairs_InvalidTags := of_decide_eq_true b_i_InvalidPairs_InvalidTags,
    ki_InvalidPairs_InvalidSubject := of_decide_eq_true b_i_InvalidPairs_InvalidSubject,
    ki_InvalidPairs_InvalidEater := of_decide_eq_true b_i_InvalidPairs_InvalidEater,
    ki_InvalidPairs_InvalidTag := of_decide_eq_true b_i_InvalidPairs_InvalidTag,
    ki_InvalidPairs_InvalidPairs := of_decide_eq_true b_i_InvalidPairs_InvalidPairs,
    ki_InvalidPairs_InvalidNumber := of_decide_eq_true b_i_InvalidPairs_InvalidNumber,
    ki_InvalidPairs_UnlikeTags := of_decide_eq_true b_i_InvalidPairs_UnlikeTags,
    ki_InvalidPairs_TooMany := of_decide_eq_true b_i_InvalidPairs_TooMany,
    ex_InvalidNumber := of_decide_eq_true b_e_InvalidNumber,
    kv_InvalidNumber := of_decide_eq_true b_v_InvalidNumber,
    ki_InvalidNumber_TagError := of_decide_eq_true b_i_InvalidNumber_TagError,
    ki_InvalidNumber_InvalidTags := of_decide_eq_true b_i_InvalidNumber_InvalidTags,
    ki_InvalidNumber_InvalidSubject := of_decide_eq_true b_i_InvalidNumber_InvalidSubject,
    ki_InvalidNumber_InvalidEater := of_decide_eq_true b_i_InvalidNumber_InvalidEater,
    ki_InvalidNumber_InvalidTag := of_decide_eq_true b_i_InvalidNumber_InvalidTag,
    ki_InvalidNumber_InvalidPairs := of_decide_eq_true b_i_InvalidNumber_InvalidPairs,
    ki_InvalidNumber_InvalidNumber := of_decide_eq_true b_i_InvalidNumber_InvalidNumber,
    ki_InvalidNumber_UnlikeTags := of_decide_eq_true b_i_InvalidNumber_UnlikeTags,
    ki_InvalidNumber_TooMany := of_decide_eq_true b_i_InvalidNumber_TooMany,
    ex_UnlikeTags := of_decide_eq_true b_e_UnlikeTags,
    kv_UnlikeTags := of_decide_eq_true b_v_UnlikeTags,
    ki_UnlikeTags_TagError := of_decide_eq_true b_i_UnlikeTags_TagError,
    ki_UnlikeTags_InvalidTags := of_decide_eq_true b_i_UnlikeTags_InvalidTags,
    ki_UnlikeTags_InvalidSubject := of_decide_eq_true b_i_UnlikeTags_InvalidSubject,
    ki_UnlikeTags_InvalidEater := of_decide_eq_true b_i_UnlikeTags_InvalidEater,
    ki_UnlikeTags_InvalidTag := of_decide_eq_true b_i_UnlikeTags_InvalidTag,
    ki_UnlikeTags_InvalidPairs := of_decide_eq_true b_i_UnlikeTags_InvalidPairs,
    ki_UnlikeTags_InvalidNumber := of_decide_eq_true b_i_UnlikeTags_InvalidNumber,
    ki_UnlikeTags_UnlikeTags := of_decide_eq_true b_i_UnlikeTags_UnlikeTags,
    ki_UnlikeTags_TooMany := of_decide_eq_true b_i_UnlikeTags_TooMany,
    ex_TooMany := of_decide_eq_true b_e_TooMany,
    kv_TooMany := of_decide_eq_true b_v_TooMany,
    ki_TooMany_TagError := of_decide_eq_true b_i_TooMany_TagError,
    ki_TooMany_InvalidTags := of_decide_eq_true b_i_TooMany_InvalidTags,
    ki_TooMany_InvalidSubject := of_decide_eq_true b_i_TooMany_InvalidSubject,
    ki_TooMany_InvalidEater := of_decide_eq_true b_i_TooMany_InvalidEater,
    ki_TooMany_InvalidTag := of_decide_eq_true b_i_TooMany_InvalidTag,
    ki_TooMany_InvalidPairs := of_decide_eq_true b_i_TooMany_InvalidPairs,
    ki_TooMany_InvalidNumber := of_decide_eq_true b_i_TooMany_InvalidNumber,
    ki_TooMany_UnlikeTags := of_decide_eq_true b_i_TooMany_UnlikeTags,
    ki_TooMany_TooMany := of_decide_eq_true b_i_TooMany_TooMany,
    c_Eater := He.ga K "Eater",
    m_Eater := He.glo_ok X0 G (c.fact 86 (f := .glo "Eater") rfl),
    cl_Eater := He.cls_ok (c.fact 87 (f := .cls "Eater") rfl),
    oc_Eater := QE.ownB_ok b_own_Eater,
    d_Eater___init__ := { a := He.fAd K ("Eater", some "__init__"), fd := fd58, F := F58, b := F58.binds fun _ _ _ _ _ _ us hl => match us, hl with | [_, _, _], _ => rfl },
    d_Eater___len__ := { a := He.fAd K ("Eater", some "__len__"), fd := fd59, F := F59, b := F59.binds fun _ _ _ _ _ _ us hl => match us, hl with | [_], _ => rfl },
    h_Eater___len__ := He.meth_ok (c.fact 88 (f := .meth "Eater" "__len__") rfl),
    d_Eater___eq__ := { a := He.fAd K ("Eater", some "__eq__"), fd := fd60, F := F60, b := F60.binds fun _ _ _ _ _ _ us hl => match us, hl with | [_, _], _ => rfl },
    h_Eater___eq__ := He.meth_ok (c.fact 89 (f := .meth "Eater" "__eq__") rfl),
    d_Eater___contains__ := { a := He.fAd K ("Eater", some "__contains__"), fd := fd61, F := F61, b := F61.binds fun _ _ _ _ _ _ us hl => match us, hl with | [_, _], _ => rfl },
    h_Eater___contains__ := He.meth_ok (c.fact 90 (f := .meth "Eater" "__contains__") rfl),
    d_Eater_tags := { a := He.fAd K ("Eater", some "tags"), fd := fd62, F := F62, b := F62.binds fun _ _ _ _ _ _ us hl => match us, hl with | [_], _ => rfl },
    h_Eater_tags := He.meth_ok (c.fact 91 (f := .meth "Eater" "tags") rfl),
    d_Eater_standings := { a := He.fAd K ("Eater", some "standings"), fd := fd63, F := F63, b := F63.binds fun _ _ _ _ _ _ us hl => match us, hl with | [_], _ => rfl },
    h_Eater_standings := He.meth_ok (c.fact 92 (f := .meth "Eater" "standings") rfl),
    d_Eater_on := { a := He.fAd K ("Eater", some "on"), fd := fd64, F := F64, b := F64.binds fun _ _ _ _ _ _ us hl => match us, hl with | [_, _], _ => rfl },
    h_Eater_on := He.meth_ok (c.fact 93 (f := .meth "Eater" "on") rfl),
    d_Eater_settled := { a := He.fAd K ("Eater", some "settled"), fd := fd65, F := F65, b := F65.binds fun _ _ _ _ _ _ us hl => match us, hl with | [_, _], _ => rfl },
    h_Eater_settled := He.meth_ok (c.fact 94 (f := .meth "Eater" "settled") rfl),
    d_Eater_then := { a := He.fAd K ("Eater", some "then"), fd := fd66, F := F66, b := F66.binds fun _ _ _ _ _ _ us hl => match us, hl with | [_, _], _ => rfl },
    h_Eater_then := He.meth_ok (c.fact 95 (f := .meth "Eater" "then") rfl),
    d_Eater_power := { a := He.fAd K ("Eater", some "power"), fd := fd67, F := F67, b := F67.binds fun _ _ _ _ _ _ us hl => match us, hl with | [_, _], _ => rfl },
    h_Eater_power := He.meth_ok (c.fact 96 (f := .meth "Eater" "power") rfl),
    mk_Eater := He.mkr_ok (c.fact 97 (f := .mkr "Eater") rfl),
    na_Eater__standings := He.noat_ok (c.fact 98 (f := .noat "Eater" "_standings") rfl),
    na_Eater__tags := He.noat_ok (c.fact 99 (f := .noat "Eater" "_tags") rfl) }, rfl, rfl, rfl⟩
end Law
end

section
set_option Elab.async false
set_option linter.all false
set_option maxRecDepth 100000
set_option maxHeartbeats 0
namespace Law
open PySem PySem.Spec PyProof.Rows L2 LamX QB QM
abbrev R : PySem.W.OpenRow := PySem.W.OpenLaw.row PySem.Challenge.rw_subjecttags_k10_whole_makers
def tfs : List He.Defn := [("without_needless_ways", none)]
abbrev hk : PySem.W.Hook := He.hookX 4 fas dds [] tfs exB
def ob (s : PySem.W.SharedT) : He.AlX := He.obsX 4 fas dds [] tfs exB (HandSHeadRun.getT s)
theorem ob_eq (s : PySem.W.SharedT) : ob s = hk.obs s.abs := He.obsX_eq (HandSHeadRun.getT_eq s)
def names : List Str := (["TagError", "InvalidTags", "InvalidSubject", "InvalidEater", "InvalidTag", "InvalidPairs", "InvalidNumber", "UnlikeTags", "TooMany", "LETTERS", "MOST_LETTERS", "MOST_TAGS", "MOST_STANDINGS", "LONGEST_WORD", "LONGEST_SUBJECT", "is_number", "is_list", "is_name", "is_tag", "is_subject"] : List Str) ++ (["is_standing", "check_tags", "check_word", "check_standings", "check_number", "no_ways", "walked", "made", "is_settled_at", "is_made_at", "copied", "without_needless_ways", "numbered", "parted", "alike_classes", "in_order_met", "least_form", "moved", "one_behind_other", "MOST_TIMES"] : List Str) ++ (["LARGEST", "Eater", "eater_of", "small_form", "check_same_tags", "powers", "is_settled", "LARGEST_MOST", "check_tag", "check_some", "is_pair", "check_pairs", "ways_for", "keep", "put", "strip", "once", "exchange", "press", "_law_mixed"] : List Str) ++ (["_law_pile", "_law_take", "_law_tags", "_law_subject", "_law_stripped", "_law_pressed", "_law_exchanged", "_law_kept_right", "_law_ones_right"] : List Str)
/-- the run's equation in three parts: what the looks cost is let go between them -/
theorem three {α β γ δ : Type} {o : Option α} {A : α → β} {B : α → γ} {C : α → δ} {a : β} {b : γ} {c : δ} (h1 : o.map A = some a) (h2 : o.map B = some b) (h3 : o.map C = some c) : o.map (fun s => (A s, B s, C s)) = some (a, b, c) := by
  cases o with
  | none => cases h1
  | some s =>
    cases h1
    cases h2
    cases h3
    rfl
section
open PySem PySem.W PySem.Calls PyProof.Rows HandSHeadRun
theorem runA (w : World) (os : OsState) : (endF (stepQ (denQ tabQ) R.prog w) 8000 R.prog w os).map (fun s => looksF R.prog (boot_heap w.params) s.abs) = some true := by
  kernel_rfl
theorem runB (w : World) (os : OsState) : (endF (stepQ (denQ tabQ) R.prog w) 8000 R.prog w os).map (fun s => seenQ (view R.prog [75]) names (importedModules R.prog.main.body) (fun s => xlAt (view R.prog [75]) [] s && recOk R.toRowW.records s) s.abs) = some (openGood (view R.prog [75]) names) := by
  kernel_rfl
abbrev kof (s : SharedT) : Frag := He.frT (getT s) (He.asD (getT s) 4)
theorem runC1 (w : World) (os : OsState) : (endF (stepQ (denQ tabQ) R.prog w) 8000 R.prog w os).map (fun s => fas.all fun f => f.ok (kof s)) = some true := by
  kernel_rfl
theorem runC2 (w : World) (os : OsState) : (endF (stepQ (denQ tabQ) R.prog w) 8000 R.prog w os).map (fun s => dds.all fun d => d.ok (kof s)) = some true := by
  kernel_rfl
theorem runC3 (w : World) (os : OsState) : (endF (stepQ (denQ tabQ) R.prog w) 8000 R.prog w os).map (fun s => dds.map fun d => He.fnW (kof s) d.at_) = some (dds.map He.DefD.val) := by
  kernel_rfl
theorem runD1 (w : World) (os : OsState) : (endF (stepQ (denQ tabQ) R.prog w) 8000 R.prog w os).map (fun s => exB (kof s)) = some true := by
  kernel_rfl
theorem runD2 (w : World) (os : OsState) : (endF (stepQ (denQ tabQ) R.prog w) 8000 R.prog w os).map (fun s => He.tabsB (getT s) tfs (kof s)) = some true := by
  kernel_rfl
end
end Law
end

section
set_option Elab.async false
set_option linter.all false
set_option maxRecDepth 100000
set_option maxHeartbeats 0
namespace Law
open PySem PySem.Spec PyProof.Rows L2 LamX QB QM
section
open PySem PySem.W PySem.Calls PyProof.Rows HandSHeadRun
theorem runO (w : World) (os : OsState) : (endF (stepQ (denQ tabQ) R.prog w) 8000 R.prog w os).map ob = some (hk.val w) := by
  have c1 := runC1 w os
  have c2 := runC2 w os
  have c3 := runC3 w os
  have d1 := runD1 w os
  have d2 := runD2 w os
  generalize (endF (stepQ (denQ tabQ) R.prog w) 8000 R.prog w os) = o at c1 c2 c3 d1 d2 ⊢
  cases o with
  | none => cases c1
  | some s =>
    have c1 : (fas.all fun f => f.ok (kof s)) = true := Option.some.inj c1
    have c2 : (dds.all fun d => d.ok (kof s)) = true := Option.some.inj c2
    have c3 : (dds.map fun d => He.fnW (kof s) d.at_) = dds.map He.DefD.val := Option.some.inj c3
    have d1 : exB (kof s) = true := Option.some.inj d1
    have d2 : He.tabsB (getT s) tfs (kof s) = true := Option.some.inj d2
    refine congrArg some ?_
    show (((((fas.all fun f => f.ok (kof s)) && (dds.all fun d => d.ok (kof s))), (dds.map fun d => He.fnW (kof s) d.at_)), []), (exB (kof s) && He.tabsB (getT s) tfs (kof s))) = (((true, dds.map He.DefD.val), []), true)
    rw [c1, c2, c3, d1, d2]
    rfl
end
theorem run (w : World) : HandSHeadRun.RunEq R (PySem.W.view R.prog [75]) hk ob 8000 names w := fun os => three (runA w os) (runB w os) (runO w os)
end Law
end

section
set_option Elab.async false
set_option linter.all false
set_option maxRecDepth 100000
set_option maxHeartbeats 0
namespace Law
open PySem PySem.W PySem.Calls PyProof.Rows
theorem hd1 : opening R.prog = plainProg R.prog.main.scope.names := by kernel_rfl
theorem hd2 (s : PySem.Shared) : fenceModules? R.prog s = some s := by kernel_rfl
theorem hd3 : defOf (view R.prog [75]) R.name = some (HandSHeadRun.topDef R.prog 75, []) := by kernel_rfl
theorem hd4 : R.prog.theDef R.name = some ((HandSHeadRun.topDef R.prog 75).params, (HandSHeadRun.topDef R.prog 75).body, (HandSHeadRun.topDef R.prog 75).scope) := by kernel_rfl
theorem hd5 : kwWritten? (HandSHeadRun.topDef R.prog 75).params.kwonlyargs (HandSHeadRun.topDef R.prog 75).params.kw_defaults = some [] := by kernel_rfl
theorem hd6 : (!R.writes || R.records.isEmpty) = true := by rfl
theorem hd7 : R.wellSaid = true := by decide +kernel
theorem hd8 : (chainsOk (view R.prog [75]) && opensWell R.prog && (frees R.toRowW && R.within.isEmpty)) = true := by decide +kernel
theorem hd9 : R.prog.bare := ⟨rfl, rfl, rfl, rfl, rfl, by decide +kernel⟩
theorem hd10 : (HandSHeadRun.topDef R.prog 75).name = ("law" : PySem.Str) := by kernel_rfl
theorem hd11 : (HandSHeadRun.topDef R.prog 75).params.defaults = [] := by kernel_rfl
end Law
namespace Law
open PySem PySem.W PySem.Calls PyProof.Rows
theorem hd12 : importsNone (view R.prog [75]) = true := by decide +kernel
end Law
end

section
set_option Elab.async false
set_option linter.all false
set_option maxRecDepth 100000
set_option maxHeartbeats 4000000
namespace Law
open PySem PySem.Spec PyProof.Rows L2 LamX QB QM
section
variable {P : Program} {w : World} {K : PySem.W.Frag} {mg : Str → Option Value} {base : Heap}
def spCopied : Sp := fun vs H Q _ => ∃ (b : Addr) (F : Form), vs = [.ref b] ∧ FormAt H b F ∧ F.length ≤ 10000 ∧ ∀ (p : Addr) (L : List Tri) (H' : Hp), Same H H' → NewF H H' p L F → Q (.ref p) H'
theorem ok_copied (X : TX K mg) : FnOk P w K mg base CX0 1 X.d_copied.a X.d_copied.fd ["standings"] spCopied := by
  have nd := sc_copied.nd
  refine X.d_copied.F.ok sc_copied (fun vs H Q E h => ?_) (fun cdv A outer s H vs Q E hr h => ?_)
  · obtain ⟨b, F, rfl, _⟩ := h
    rfl
  · obtain ⟨b, F, rfl, hF, hz, k⟩ := h
    refine ⟨_, (pss_one (ps_ret (pe_lc (own := [("word", 1), ("ways", 2)]) (g := gTup K 2 (gCons (gName 1) (gCons (gName 2) (gNil)))) (tt := tYes) rfl nd (QB.pi_listK K (pv 0)) (blkOk_by (N := ["standings", "word", "ways"]) (sc := defScope s_copied) (by decide +kernel)) (fun _ _ _ _ _ => pg_tup (by rfl) (pgs_cons (pg_name (i := 1) nd rfl (Or.inl rfl)) (pgs_cons (pg_name (i := 2) nd rfl (Or.inl rfl)) (pgs_nil)))) (fun _ _ _ _ _ => pts_nil) (fun _ _ _ _ _ => (pe_tup (pa_cons (pe_callTy (QB.call_listK K) (by rfl) X.n_list QB.bo_list (pa_cons (pv 1) pa_nil)) (pa_cons (pe_callTy (QB.call_listK K) (by rfl) X.n_list QB.bo_list (pa_cons (pv 2) pa_nil)) pa_nil))))))), ?_⟩
    try dsimp only [Cx.nox, Cx.wish, cxOf]
    obtain ⟨vs, hv, hvl⟩ := FormAt.lst hF
    refine ⟨_, rfl, _, rfl, ⟨_, SqL.of hv⟩, fun D hD => ?_⟩
    refine lc_it (walk_listF (K := K) (p := b) (F := F)) (fun i H' => Same H H' ∧ ∃ L, H' D = some (.lst (L.map fun x => V.ref x.1)) ∧ NewL H H' L (F.take i) ∧ D ∉ inner L)
      ⟨same_new hD, [], upd_same, NewL.nil, by simp [inner]⟩ (fun i H' _ h => Same.form h.1 hF) ?_ ?_
    · rintro i x H1 H2 hi ⟨s1, L, hL, nL, oD⟩ ⟨s, t, a, b', hs, rfl, rfl, h1, h2, h3⟩
      refine ⟨t, _, rfl, SqT.of h1, rfl, _, _, rfl, _, _, rfl, rfl, rfl, ?_⟩
      refine ⟨_, rfl, _, _, rfl, .inl (SqL.of h2), fun p1 hp1 => ?_⟩
      have e1 : Same H2 (upd H2 p1 (.lst (vS s.1))) := same_new hp1
      refine ⟨_, rfl, _, _, rfl, .inl (SqL.of (Same.ways e1 h3)), fun p2 hp2 => ?_⟩
      have e2 := Same.new e1 (o := .lst (vWs s.2)) hp2
      refine ⟨by show 2 ≤ sizeLine; decide, fun p3 hp3 => ?_⟩
      have e3 := Same.new e2 (o := .tup [V.ref p1, V.ref p2]) hp3
      have q1 : (upd (upd (upd H2 p1 (.lst (vS s.1))) p2 (.lst (vWs s.2))) p3 (.tup [V.ref p1, V.ref p2])) p1 = some (.lst (vS s.1)) := by
        rw [upd_ne (ne_of_none ((upd_ne (ne_of_none upd_same hp2)).trans upd_same) hp3), upd_ne (ne_of_none upd_same hp2), upd_same]
      have q2 : (upd (upd (upd H2 p1 (.lst (vS s.1))) p2 (.lst (vWs s.2))) p3 (.tup [V.ref p1, V.ref p2])) p2 = some (.lst (vWs s.2)) := by
        rw [upd_ne (ne_of_none upd_same hp3), upd_same]
      have n2 : H2 p2 = none := e1.free hp2
      have n3 : H2 p3 = none := e2.free hp3
      have n12 : p1 ≠ p2 := ne_of_none upd_same hp2
      have hs' : F.take (i + 1) = F.take i ++ [s] := by rw [List.take_succ, hs]; rfl
      refine ⟨_, e3 _ _ hL, ?_, Same.mut (s1.trans e3) hD, L ++ [(p3, p1, p2)], ?_, ?_, ?_⟩
      · rw [List.length_map, nL.len, List.length_take]
        exact sz_lt (by omega)
      · rw [upd_same, List.map_append]
        rfl
      · rw [hs']
        have n := nL.snoc e3 hp1 n2 n12 (t := p3) (s := s) upd_same q1 q2 (.of (s1.free n3)) (.of (s1.free hp1)) (.of (s1.free n2))
        exact n.upd (e3 _ _ hL) (not_inner_snoc oD (ne_of_none hL hp1) (ne_of_none hL n2))
      · exact not_inner_snoc oD (ne_of_none hL hp1) (ne_of_none hL n2)
    · rintro H1 ⟨s1, L, hL, nL, oD⟩
      rw [List.take_length] at nL
      exact k D L H1 s1 ⟨hL, nL, .of hD, oD⟩

/-- a list of tuples that are keys -/
def MarksAt (H : Hp) (a : Addr) (ks : List NestedKey) : Prop := ∃ bs : List Addr, H a = some (.lst (bs.map V.ref)) ∧ Paired (fun b k => QD.NV H k (.ref b) ∧ k.depth ≤ 8) bs ks
def IntsAt (H : Hp) (a : Addr) (ns : List Nat) : Prop := H a = some (.lst (ns.map fun (n : Nat) => V.int (n : Int)))
def spNumbered : Sp := fun vs H Q _ => ∃ (a : Addr) (ks : List NestedKey), vs = [.ref a] ∧ MarksAt H a ks ∧ ks.length ≤ 10000 ∧ ∀ (p : Addr) (H' : Hp), Same H H' → H p = none → IntsAt H' p (QD.numb ks) → Q (.ref p) H'
theorem ok_numbered (X : TX K mg) : FnOk P w K mg base CX0 1 X.d_numbered.a X.d_numbered.fd ["marks"] spNumbered := by
  have nd := sc_numbered.nd
  refine X.d_numbered.F.ok sc_numbered (fun vs H Q E h => ?_) (fun cdv A outer s H vs Q E hr h => ?_)
  · obtain ⟨a, ks, rfl, _⟩ := h
    rfl
  · obtain ⟨a, ks, rfl, ⟨bs, hb, hbs⟩, hz, k⟩ := h
    refine ⟨_, (pss_cons (ps_set (i := 1) nd rfl (Or.inl rfl) QD.pe_newN) (pss_cons (ps_set (i := 2) nd rfl (Or.inl rfl) (pe_lst pa_nil)) (pss_cons (ps_for PassesOwn.never rfl (QB.pi_listK K (pv 0)) (pg_name (i := 3) nd rfl (Or.inl rfl)) (pss_cons (ps_if (pt_cmp (QD.pc_notinN (hu64 hr) (pv 3) (pv 1))) (pss_one (QD.ps_putN (hu64 hr) (pv 1) (pv 3) (pe_callB QD.call_lenN (by rfl) X.n_len PySem.boot_len (pa_cons (pv 1) pa_nil)) rfl)) pss_nil) (pss_one (ps_expr (QB.pe_bmK K PySem.F.plainAttrs_list PySem.F.slot_list_append PySem.F.type_list_append mt_append (pv 2) (pa_cons (QD.pe_getN (hu64 hr) (pv 1) (pv 3) (fun _ _ => rfl)) pa_nil)))))) (pss_one (ps_ret (pv 2)))))), ?_⟩
    try dsimp only [Cx.nox, Cx.wish, cxOf]
    refine fun d H1 hd o1 dn1 _ => ?_
    have s1 : Same H H1 := fun b u e => by rw [o1 b (ne_of_none e hd)]; exact e
    refine ⟨Nat.zero_le _, fun l hl => ?_⟩
    have hl0 : H l = none := s1.free hl
    have ndl : d ≠ l := by
      obtain ⟨_, xs, h1, _⟩ := dn1
      exact ne_of_none h1 hl
    refine ⟨_, rfl, _, rfl, ⟨_, SqL.of (Eq.trans (upd_ne (ne_of_none (s1 _ _ hb) hl)) (s1 _ _ hb))⟩, ?_⟩
    have hlen := Paired.length hbs
    refine for_it (walk_list (K := K) (a := a) (xs := bs.map V.ref)) (fun i σ H' => ∃ (v3 : Option V), σ = [some (.ref a), some (.ref d), some (.ref l), v3] ∧ Same H H' ∧ QD.DN P w H' d (QD.dictFrom 0 (QD.seenOf (ks.take i))) ∧ IntsAt H' l (QD.numb (ks.take i)))
      ⟨none, rfl, Same.new s1 hl, dn1.to (fun b xs e => (upd_ne (ne_of_none e hl)).trans e) (upd_ne ndl), upd_same⟩ (fun i σ H' _ ⟨_, _, s2, _⟩ => SqL.of (s2 _ _ hb)) ?_ ?_
    · rintro i x σ H2 H3 hi ⟨v3, rfl, s2, dn, hI⟩ ⟨rfl, hx⟩
      rw [List.length_map] at hi
      have hbi : bs[i]? = some bs[i] := List.getElem?_eq_getElem hi
      rw [List.getElem?_map, hbi] at hx
      cases hx
      obtain ⟨m, hm, nv, dp⟩ := paired_get' hbs hbi
      have nv3 : QD.NV H3 m (.ref bs[i]) := nv.to fun b xs e => s2 _ _ e
      have htk : ks.take (i + 1) = ks.take i ++ [m] := by rw [List.take_succ, hm]; rfl
      have hsl := QD.seenOf_len (ks.take i)
      rw [List.length_take] at hsl
      have hIl : (QD.numb (ks.take i)).length ≤ 10000 := by rw [QD.numb_len, List.length_take]; omega
      refine ⟨_, rfl, _, rfl, d, bs[i], _, m, rfl, rfl, dn, nv3, dp, _, rfl, ?_⟩
      rw [QD.valV_dictFrom]
      by_cases hin : m ∈ QD.seenOf (ks.take i)
      · rw [if_pos hin]
        refine ⟨_, rfl, .inl ⟨rfl, _, SqL.of hI⟩, ?_⟩
        refine ⟨_, rfl, _, rfl, d, bs[i], _, m, _, rfl, rfl, dn, nv3, dp, (by rw [QD.valV_dictFrom, if_pos hin]), ?_⟩
        refine ⟨l, _, _, rfl, rfl, hI, sz_lt (by rw [List.length_map]; omega), ?_⟩
        refine ⟨_, rfl, Same.mut s2 hl0, dn.to (fun b xs e => (upd_ne (ne_of e hI (fun z => nomatch z))).trans e) (upd_ne ?_) |> (fun z => by rw [htk, QD.seenOf_snoc]; unfold QD.addSeen; rw [if_pos hin]; exact z), ?_⟩
        · obtain ⟨_, xs, h1, _⟩ := dn
          exact ne_of h1 hI (fun z => nomatch z)
        · rw [htk]
          unfold IntsAt
          rw [upd_same, QD.numb_snoc, List.map_append]
          unfold QD.addSeen
          rw [if_pos hin, Nat.zero_add]
          rfl
      · rw [if_neg hin]
        refine ⟨_, rfl, d, _, rfl, dn, _, rfl, _, rfl, d, bs[i], _, m, rfl, rfl, dn, nv3, dp, sz_lt (by rw [QD.dictFrom_len]; omega), fun H4 o4 dn4 _ => ?_⟩
        rw [QD.dictFrom_len] at dn4
        have dn5 : QD.DN P w H4 d (QD.dictFrom 0 (QD.seenOf (ks.take i) ++ [m])) := by
          have e := QD.putK_dictFrom (n := 0) hin
          rw [Nat.zero_add] at e
          rw [← e]
          exact dn4
        have ndl2 : l ≠ d := by
          obtain ⟨_, xs, h1, _⟩ := dn
          exact (ne_of h1 hI (fun z => nomatch z)).symm
        have hd3 : ∀ b xs, H3 b = some (.tup xs) → H4 b = some (.tup xs) := fun b xs e => by
          obtain ⟨_, ys, h1, _⟩ := dn
          exact (o4 b (ne_of e h1 (fun z => nomatch z))).trans e
        have nv4 := nv3.to hd3
        have hI4 : IntsAt H4 l (QD.numb (ks.take i)) := (o4 l ndl2).trans hI
        have s4 : Same H H4 := fun b u e => (o4 b (ne_of_none e hd)).trans (s2 b u e)
        refine ⟨_, rfl, .inl ⟨rfl, _, SqL.of hI4⟩, ?_⟩
        refine ⟨_, rfl, _, rfl, d, bs[i], _, m, _, rfl, rfl, dn5, nv4, dp, (by rw [QD.valV_dictFrom, if_pos (by simp)]), ?_⟩
        refine ⟨l, _, _, rfl, rfl, hI4, sz_lt (by rw [List.length_map]; omega), ?_⟩
        refine ⟨_, rfl, Same.mut s4 hl0, dn5.to (fun b xs e => (upd_ne (ne_of e hI4 (fun z => nomatch z))).trans e) (upd_ne ndl2.symm) |> (fun z => by rw [htk, QD.seenOf_snoc]; unfold QD.addSeen; rw [if_neg hin]; exact z), ?_⟩
        rw [htk]
        unfold IntsAt
        rw [upd_same, QD.numb_snoc, List.map_append]
        unfold QD.addSeen
        rw [if_neg hin, Nat.zero_add]
        rfl
    · rintro σ H2 ⟨v3, rfl, s2, dn, hI⟩
      rw [List.take_of_length_le (by rw [List.length_map]; omega)] at hI
      exact ⟨_, rfl, k l H2 s2 hl0 hI⟩
end
end Law
end

section
set_option Elab.async false
set_option linter.all false
set_option maxRecDepth 100000
set_option maxHeartbeats 4000000
namespace Law
open PySem PySem.Spec PyProof.Rows L2 LamX QB QM
section
variable {P : Program} {w : World} {K : PySem.W.Frag} {mg : Str → Option Value} {base : Heap}
theorem ints_get {ns : List Nat} {k n : Nat} (h : ns[k]? = some n) : (ns.map fun (n : Nat) => V.int (n : Int))[k]? = some (.int (n : Int)) := by
  rw [List.getElem?_map, h]
  rfl
theorem Same.ints {H H' : Hp} {a : Addr} {ns : List Nat} (e : Same H H') (h : IntsAt H a ns) : IntsAt H' a ns := e _ _ h
theorem Same.marks {H H' : Hp} {a : Addr} {ks : List NestedKey} (e : Same H H') (h : MarksAt H a ks) : MarksAt H' a ks := by
  obtain ⟨bs, h1, h2⟩ := h
  exact ⟨bs, e _ _ h1, L2.Paired.mapP h2 fun b k z => ⟨z.1.to fun c xs e' => e _ _ e', z.2⟩⟩
/-- the standings' ways lead to standings -/
def WaysIn (F : Form) : Prop := ∀ s ∈ F, s.2.length ≤ 100 ∧ ∀ n, some n ∈ s.2 → n < F.length
theorem nvs_ints {H : Hp} (f : α → Int) : ∀ l : List α, QD.NVs H (l.map fun x => NestedKey.num (f x)) (l.map fun x => V.int (f x))
  | [] => .nil
  | _ :: l => .cons (.num _) (nvs_ints f l)
def wayInt (cs : List Nat) : Option Nat → Int
  | none => -1
  | some n => ((cs.getD n 0 : Nat) : Int)
theorem wayNum_eq (cs : List Nat) (w : Option Nat) : wayNum cs w = .num (wayInt cs w) := by cases w <;> rfl
theorem depthAll_num (f : α → Int) : ∀ l : List α, NestedKey.depthAll (l.map fun x => NestedKey.num (f x)) = 0
  | [] => rfl
  | _ :: l => by
    show max (NestedKey.depth (.num _)) (NestedKey.depthAll _) = 0
    rw [depthAll_num f l]
    rfl
def spParted : Sp := fun vs H Q _ => ∃ (a b : Addr) (cs : List Nat) (F : Form), vs = [.ref a, .ref b] ∧ IntsAt H a cs ∧ FormAt H b F ∧ cs.length = F.length ∧ F.length ≤ 5000 ∧ WaysIn F ∧
  ∀ (p : Addr) (H' : Hp), Same H H' → H p = none → IntsAt H' p (part cs F) → Q (.ref p) H'
theorem ok_parted (X : TX K mg) : FnOk P w K mg base CX0 2 X.d_parted.a X.d_parted.fd ["classes", "standings"] spParted := by
  have nd := sc_parted.nd
  refine X.d_parted.F.ok sc_parted (fun vs H Q E h => ?_) (fun cdv A outer s H vs Q E hr h => ?_)
  · obtain ⟨a, b, cs, F, rfl, _⟩ := h
    rfl
  · obtain ⟨a, b, cs, F, rfl, hc, hF, hlen, hz, hin, k⟩ := h
    refine ⟨_, (pss_cons (ps_set (i := 2) nd rfl (Or.inl rfl) (pe_lst pa_nil)) (pss_cons (ps_for PassesOwn.never rfl (QB.pi_zipK K (by rfl) X.n_zip (pa_cons (pv 0) (pa_cons (pv 1) pa_nil))) (pg_tup (by rfl) (pgs_cons (pg_name (i := 3) nd rfl (Or.inl rfl)) (pgs_cons (pg_tup (by rfl) (pgs_cons (pg_name (i := 4) nd rfl (Or.inl rfl)) (pgs_cons (pg_name (i := 5) nd rfl (Or.inl rfl)) (pgs_nil)))) (pgs_nil)))) (pss_one (ps_expr (QB.pe_bmK K PySem.F.plainAttrs_list PySem.F.slot_list_append PySem.F.type_list_append mt_append (pv 2) (pa_cons (pe_tup (pa_cons (pv 3) (pa_cons (pe_callTy (QB.call_tupleK K) (by rfl) X.n_tuple QB.bo_tuple (pa_cons (pe_lc (own := [("way", 6)]) (g := gName 6) (tt := tYes) rfl nd (QB.pi_listK K (pv 5)) (blkOk_by (N := ["classes", "standings", "marks", "number", "_", "ways", "way"]) (sc := defScope s_parted) (by decide +kernel)) (fun _ _ _ _ _ => pg_name (i := 6) nd rfl (Or.inl rfl)) (fun _ _ _ _ _ => pts_nil) (fun _ _ _ _ _ => (pe_ifExp (pt_cmpR op_isN (pv 6) pe_non (nomark _)) (pe_un un_neg pe_int) (pe_ix (QB.ix_listK K) (pv 0) (pv 6) (fun _ _ => rfl))))) pa_nil)) pa_nil))) pa_nil))))) (pss_one (ps_ret (pe_call (ok_numbered X) (hr.mono (by decide)) rfl X.d_numbered.mg X.d_numbered.F.kp X.d_numbered.b .nil pass0 (pa_cons (pv 2) pa_nil)))))), ?_⟩
    try dsimp only [Cx.nox, Cx.wish, cxOf]
    refine ⟨Nat.zero_le _, fun l hl => ?_⟩
    have s0 : Same H (upd H l (.lst [])) := same_new hl
    obtain ⟨ts, hts, hpr⟩ := hF
    have hlt := Paired.length hpr
    refine ⟨_, rfl, _, rfl, _, _, _, _, rfl, SqL.of (Same.ints s0 hc), SqL.of (s0 _ _ hts), ?_⟩
    refine for_it (walk_zip (K := K) (a := a) (b := b) (n := F.length) (by rw [List.length_map, List.length_map]; omega)) (fun i σ H' => ∃ (v3 v4 v5 : Option V), σ = [some (.ref a), some (.ref b), some (.ref l), v3, v4, v5, none] ∧ Same H H' ∧ MarksAt H' l ((partKeys cs F).take i))
      ⟨none, none, none, rfl, s0, [], upd_same, .nil⟩ (fun i σ H' _ ⟨_, _, _, _, s1, _⟩ => ⟨SqL.of (Same.ints s1 hc), SqL.of (s1 _ _ hts)⟩) ?_ ?_
    · rintro i x σ H1 H2 hi ⟨v3, v4, v5, rfl, s1, ms, hms, hpm⟩ ⟨tp, x1, x2, rfl, ntp, rfl, e1, e2⟩
      have hci : cs[i]? = some (cs[i]'(by omega)) := List.getElem?_eq_getElem _
      have e1 : (cs.map fun (n : Nat) => V.int (n : Int))[i]? = some x1 := e1
      rw [ints_get hci] at e1
      cases e1
      have hFi : F[i]? = some F[i] := List.getElem?_eq_getElem hi
      obtain ⟨t, ht, p1, p2, f1, f2, f3⟩ := paired_get hpr hFi
      have e2 : (ts.map V.ref)[i]? = some x2 := e2
      rw [List.getElem?_map, ht] at e2
      cases e2
      have s2 : Same H (upd H1 tp (.tup [.int ((cs[i]'(by omega) : Nat) : Int), .ref t])) := Same.new s1 ntp
      have s12 : Same H1 (upd H1 tp (.tup [.int ((cs[i]'(by omega) : Nat) : Int), .ref t])) := same_new ntp
      refine ⟨tp, _, rfl, SqT.of upd_same, rfl, _, _, rfl, _, _, rfl, ⟨t, _, rfl, SqT.of (s2 _ _ f1), rfl, _, _, rfl, _, _, rfl, rfl, rfl, ?_⟩⟩
      refine ⟨_, rfl, .inl ⟨rfl, _, SqL.of (s12 _ _ hms)⟩, ?_⟩
      refine ⟨_, rfl, _, rfl, _, rfl, ⟨_, SqL.of (Same.ways s2 f3)⟩, fun D hD => ?_⟩
      refine lc_map (walk_listWs (K := K) (a := p2) (ws := F[i].2)) hD (by have := (hin _ (mem_of hFi)).1; omega) (fun H3 s3 => Same.ways (s2.trans s3) f3) (fun j => .int (wayInt cs (F[i].2[j]?).join)) ?_ ?_
      · rintro j x H3 H4 kk hj s3 ⟨y, hy, rfl, rfl⟩ hk
        have hk' := hk H4 (Same.refl H4)
        rw [hy] at hk'
        refine ⟨rfl, _, rfl, rfl, _, rfl, ?_⟩
        rw [vW_is]
        cases y with
        | none => exact iteT ⟨1, rfl, hk'⟩
        | some n =>
          have hn : n < cs.length := by rw [hlen]; exact (hin _ (mem_of hFi)).2 n (List.mem_of_getElem? hy)
          have hcn : cs[n]? = some cs[n] := List.getElem?_eq_getElem hn
          refine iteF ⟨_, rfl, _, rfl, _, _, _, _, rfl, rfl, SqL.of (Same.ints (s2.trans s3) hc), atI_nat (ints_get hcn), ?_⟩
          have e3 : wayInt cs (some n) = ((cs[n] : Nat) : Int) := by
            show ((cs.getD n 0 : Nat) : Int) = _
            rw [List.getD_eq_getElem?_getD, hcn]
            rfl
          rw [← e3]
          exact hk'
      · intro H3 s3 hD3
        rw [range_map_get _ F[i].2 (fun w => .int (wayInt cs w)) (fun j x hx => by rw [hx]; rfl)] at hD3
        refine ⟨D, _, rfl, .inl ⟨SqL.of hD3, fun q hq => ?_⟩⟩
        refine ⟨by show 2 ≤ sizeLine; decide, fun r hr' => ?_⟩
        have s4 : Same (upd H1 tp (.tup [.int ((cs[i]'(by omega) : Nat) : Int), .ref t])) (upd (upd H3 q (.tup (F[i].2.map fun w => V.int (wayInt cs w)))) r (.tup [.int ((cs[i]'(by omega) : Nat) : Int), .ref q])) := Same.new (Same.new s3 hq) hr'
        have s5 := s12.trans s4
        have hl5 := s5 _ _ hms
        refine ⟨l, _, _, rfl, rfl, hl5, sz_lt ?_, ?_⟩
        · rw [List.length_map, Paired.length hpm, List.length_take]
          omega
        · refine ⟨_, _, _, rfl, Same.mut (s1.trans s5) hl, ms ++ [r], ?_, ?_⟩
          · rw [upd_same, List.map_append]
            rfl
          · have hpk : (partKeys cs F)[i]? = some (partKey cs (cs[i]'(by omega), F[i])) := by
              have ez : (cs.zip F)[i]? = some (cs[i]'(by omega), F[i]) := by
                rw [List.getElem?_zip_eq_some]
                exact ⟨hci, hFi⟩
              unfold partKeys
              rw [List.getElem?_map, ez]
              rfl
            rw [List.take_succ, hpk]
            have tk : ∀ c xs, H1 c = some (.tup xs) → (upd (upd (upd H3 q (.tup (F[i].2.map fun w => V.int (wayInt cs w)))) r (.tup [.int ((cs[i]'(by omega) : Nat) : Int), .ref q])) l (.lst (ms.map V.ref ++ [V.ref r]))) c = some (.tup xs) := fun c xs e =>
              (upd_ne (ne_of e hms (fun z => nomatch z))).trans (s5 _ _ e)
            refine Paired.snoc (L2.Paired.mapP hpm fun b k z => ⟨z.1.to tk, z.2⟩) ⟨?_, ?_⟩
            · have qr : (upd (upd (upd H3 q (.tup (F[i].2.map fun w => V.int (wayInt cs w)))) r (.tup [.int ((cs[i]'(by omega) : Nat) : Int), .ref q])) l (.lst (ms.map V.ref ++ [V.ref r]))) r = some (.tup [.int ((cs[i]'(by omega) : Nat) : Int), .ref q]) :=
                (upd_ne (ne_of upd_same hl5 (fun z => nomatch z))).trans upd_same
              have qq : (upd (upd (upd H3 q (.tup (F[i].2.map fun w => V.int (wayInt cs w)))) r (.tup [.int ((cs[i]'(by omega) : Nat) : Int), .ref q])) l (.lst (ms.map V.ref ++ [V.ref r]))) q = some (.tup (F[i].2.map fun w => V.int (wayInt cs w))) := by
                have z1 : (upd (upd H3 q (.tup (F[i].2.map fun w => V.int (wayInt cs w)))) r (.tup [.int ((cs[i]'(by omega) : Nat) : Int), .ref q])) q = some (.tup (F[i].2.map fun w => V.int (wayInt cs w))) := (upd_ne (ne_of_none upd_same hr')).trans upd_same
                exact (upd_ne (ne_of z1 hl5 (fun z => nomatch z))).trans z1
              refine .tup qr (.cons (.num _) (.cons (.tup qq ?_) .nil))
              have e9 : F[i].2.map (wayNum cs) = F[i].2.map fun w => NestedKey.num (wayInt cs w) := List.map_congr_left fun w _ => wayNum_eq cs w
              rw [e9]
              exact nvs_ints _ _
            · show NestedKey.depth (.tup [.num _, .tup (F[i].2.map (wayNum cs))]) ≤ 8
              have e9 : F[i].2.map (wayNum cs) = F[i].2.map fun w => NestedKey.num (wayInt cs w) := List.map_congr_left fun w _ => wayNum_eq cs w
              rw [e9]
              simp [NestedKey.depth, NestedKey.depthAll, depthAll_num]
    · rintro σ H1 ⟨v3, v4, v5, rfl, s1, hm⟩
      rw [List.take_of_length_le (by rw [partKeys_len hlen]; exact Nat.le_refl _)] at hm
      exact ⟨_, rfl, l, _, rfl, hm, by rw [partKeys_len hlen]; omega, fun p H' s' np hp => k p H' (s1.trans s') (s1.free np) hp⟩

theorem nvs_texts {H : Hp} : ∀ l : List Str, QD.NVs H (l.map NestedKey.text) (l.map V.str)
  | [] => .nil
  | _ :: l => .cons (.text _) (nvs_texts l)
theorem depthAll_text : ∀ l : List Str, NestedKey.depthAll (l.map NestedKey.text) = 0
  | [] => rfl
  | _ :: l => by
    show max (NestedKey.depth (.text _)) (NestedKey.depthAll _) = 0
    rw [depthAll_text l]
    rfl
theorem max_run {H : Hp} {a : Addr} {cs : List Nat} {Q : VK} (h : IntsAt H a cs) (hp : 0 < cs.length) (q : Q (.int (maxOf cs : Int)) H) : rMax K [.ref a] H Q := by
  refine ⟨a, cs.map fun (n : Nat) => (n : Int), rfl, SqL.of (by rw [List.map_map]; exact h), by rw [List.length_map]; exact hp, fun m hm hle => ?_⟩
  obtain ⟨x, hx, rfl⟩ := List.mem_map.mp hm
  have e : maxOf cs = x := maxOf_eq hx fun y hy => by
    have := hle (y : Int) (List.mem_map.mpr ⟨y, hy, rfl⟩)
    omega
  rw [e] at q
  exact q
def spAlike : Sp := fun vs H Q _ => ∃ (b : Addr) (F : Form), vs = [.ref b] ∧ FormAt H b F ∧ 0 < F.length ∧ F.length ≤ 5000 ∧ WaysIn F ∧ (∀ s ∈ F, s.1.length ≤ 10000) ∧ ∀ (p : Addr) (H' : Hp), Same H H' → H p = none → IntsAt H' p (alike F) → Q (.ref p) H'
theorem ok_alike_classes (X : TX K mg) : FnOk P w K mg base CX0 3 X.d_alike_classes.a X.d_alike_classes.fd ["standings"] spAlike := by
  have nd := sc_alike_classes.nd
  refine X.d_alike_classes.F.ok sc_alike_classes (fun vs H Q E h => ?_) (fun cdv A outer s H vs Q E hr h => ?_)
  · obtain ⟨b, F, rfl, _⟩ := h
    rfl
  · obtain ⟨b, F, rfl, hF, hp, hz, hin, hw, k⟩ := h
    refine ⟨_, (pss_cons (ps_set (i := 1) nd rfl (Or.inl rfl) (pe_call (ok_numbered X) (hr.mono (by decide)) rfl X.d_numbered.mg X.d_numbered.F.kp X.d_numbered.b .nil pass0 (pa_cons (pe_lc (own := [("word", 3), ("_", 4)]) (g := gTup K 2 (gCons (gName 3) (gCons (gName 4) (gNil)))) (tt := tYes) rfl nd (QB.pi_listK K (pv 0)) (blkOk_by (N := ["standings", "classes", "many", "word", "_"]) (sc := defScope s_alike_classes) (by decide +kernel)) (fun _ _ _ _ _ => pg_tup (by rfl) (pgs_cons (pg_name (i := 3) nd rfl (Or.inl rfl)) (pgs_cons (pg_name (i := 4) nd rfl (Or.inl rfl)) (pgs_nil)))) (fun _ _ _ _ _ => pts_nil) (fun _ _ _ _ _ => (pe_callTy (QB.call_tupleK K) (by rfl) X.n_tuple QB.bo_tuple (pa_cons (pv 3) pa_nil)))) pa_nil))) (pss_cons (ps_set (i := 2) nd rfl (Or.inl rfl) pe_int) (pss_cons (ps_while PassesOwn.never (pt_cmpR op_le (pv 2) (pe_callB (QB.cr_maxK K rfl) (by rfl) X.n_max QB.bo_max (pa_cons (pv 1) pa_nil)) (nomark _)) (pss_cons (ps_set (i := 2) nd rfl (Or.inl rfl) (pe_op op_add (pe_callB (QB.cr_maxK K rfl) (by rfl) X.n_max QB.bo_max (pa_cons (pv 1) pa_nil)) pe_int)) (pss_one (ps_set (i := 1) nd rfl (Or.inl rfl) (pe_call (ok_parted X) (hr.mono (by decide)) rfl X.d_parted.mg X.d_parted.F.kp X.d_parted.b .nil pass0 (pa_cons (pv 1) (pa_cons (pv 0) pa_nil))))))) (pss_one (ps_ret (pv 1)))))), ?_⟩
    try dsimp only [Cx.nox, Cx.wish, cxOf]
    obtain ⟨vs, hv, hvl⟩ := FormAt.lst hF
    refine ⟨_, rfl, _, rfl, ⟨_, SqL.of hv⟩, fun D hD => ?_⟩
    refine lc_it (walk_listF (K := K) (p := b) (F := F)) (fun i H' => Same H H' ∧ MarksAt H' D (wordKeys (F.take i)))
      ⟨same_new hD, [], upd_same, .nil⟩ (fun i H' _ h => Same.form h.1 hF) ?_ ?_
    · rintro i x H1 H2 hi ⟨s1, ms, hms, hpm⟩ ⟨s, t, a, b', hs, rfl, rfl, h1, h2, h3⟩
      refine ⟨t, _, rfl, SqT.of h1, rfl, _, _, rfl, _, _, rfl, rfl, rfl, ?_⟩
      refine ⟨_, rfl, _, _, rfl, .inl ⟨SqL.of h2, fun q hq => ?_⟩⟩
      have e1 : Same H2 (upd H2 q (.tup (vS s.1))) := same_new hq
      have hml := Paired.length hpm
      unfold wordKeys at hml
      rw [List.length_map, List.length_take] at hml
      refine ⟨_, e1 _ _ hms, sz_lt (by rw [List.length_map]; omega), Same.mut (s1.trans e1) hD, ms ++ [q], ?_, ?_⟩
      · rw [upd_same, List.map_append]
        rfl
      · have tk : ∀ c xs, H2 c = some (.tup xs) → (upd (upd H2 q (.tup (vS s.1))) D (.lst (ms.map V.ref ++ [V.ref q]))) c = some (.tup xs) := fun c xs e =>
          (upd_ne (ne_of e hms (fun z => nomatch z))).trans (e1 _ _ e)
        have hs' : F.take (i + 1) = F.take i ++ [s] := by rw [List.take_succ, hs]; rfl
        unfold wordKeys at hpm ⊢
        rw [hs', List.map_append]
        refine Paired.snoc (L2.Paired.mapP hpm fun b k z => ⟨z.1.to tk, z.2⟩) ⟨.tup (vs := vS s.1) ((upd_ne (ne_of upd_same (e1 _ _ hms) (fun z => nomatch z))).trans upd_same) (nvs_texts _), ?_⟩
        show NestedKey.depth (.tup (s.1.map .text)) ≤ 8
        simp [NestedKey.depth, depthAll_text]
    · rintro H1 ⟨s1, hm⟩
      rw [List.take_length] at hm
      refine ⟨D, _, rfl, hm, by unfold wordKeys; rw [List.length_map]; omega, fun l H2 s2 nl hl => ?_⟩
      refine ⟨fun m σ H' => ∃ (c : Addr) (many : Nat) (cs : List Nat) (v3 v4 : Option V), σ = [some (.ref b), some (.ref c), some (.int (many : Int)), v3, v4] ∧ Same H H' ∧ H c = none ∧ IntsAt H' c cs ∧ cs.length = F.length ∧ (∀ x ∈ cs, x < F.length) ∧ m = F.length + 1 - many ∧
        many ≤ F.length ∧ ∃ f, F.length + 1 ≤ f + many ∧ alikeLoop F f many cs = alike F, ⟨_, l, 0, _, none, none, rfl, s1.trans s2, s1.free nl, hl, by rw [QD.numb_len]; exact List.length_map _, fun x hx => ?_, rfl, Nat.zero_le _, _, Nat.le_refl _, rfl⟩, ?_⟩
      · have := numb_lt' hx
        unfold wordKeys at this
        rwa [List.length_map] at this
      · rintro m σ H3 ⟨c, many, cs, v3, v4, rfl, s3, nc, hc, hcl, hclt, rfl, hmany, f, hf, hloop⟩
        have hpos : 0 < cs.length := by omega
        have hmx : maxOf cs < F.length := by
          have := (maxOf_le cs 0 (F.length - 1)).mpr ⟨Nat.zero_le _, fun x hx => by have := hclt x hx; omega⟩
          unfold maxOf
          omega
        refine ⟨_, rfl, _, rfl, ?_⟩
        dsimp only [tNil]
        refine max_run hc hpos ?_
        refine ⟨_, _, rfl, rfl, _, rfl, ?_⟩
        cases f with
        | zero => omega
        | succ f =>
          unfold alikeLoop at hloop
          by_cases hle : many ≤ maxOf cs
          · rw [if_pos (decide_eq_true (by omega))]
            rw [if_pos hle] at hloop
            refine ⟨_, fun σ' H' h => h, ?_⟩
            refine ⟨_, rfl, ?_⟩
            dsimp only [tNil]
            refine max_run hc hpos ?_
            refine ⟨_, _, rfl, rfl, ?_⟩
            refine ⟨_, rfl, _, rfl, ?_⟩
            refine ⟨c, b, cs, F, rfl, hc, Same.form s3 hF, hcl, hz, hin, fun p H4 s4 np hp4 => ?_⟩
            refine ⟨_, ?_, p, maxOf cs + 1, _, v3, v4, rfl, s3.trans s4, s3.free np, hp4, part_len hcl, fun x hx => ?_, rfl, by omega, f, by omega, hloop⟩
            · omega
            · have := numb_lt' hx
              rwa [partKeys_len hcl] at this
          · rw [if_neg (by simp; omega)]
            rw [if_neg hle] at hloop
            rw [← hloop] at k
            exact ⟨_, rfl, k c H3 s3 nc hc⟩
end
end Law
end

section
set_option Elab.async false
set_option linter.all false
set_option maxRecDepth 100000
set_option maxHeartbeats 4000000
namespace Law
open PySem PySem.Spec PyProof.Rows L2 LamX QB QM
section
variable {P : Program} {w : World} {K : PySem.W.Frag} {mg : Str → Option Value} {base : Heap}
def keysOf (cs met : List Nat) : List L2.Key := met.map fun m => (Sum.inl ((clsOf cs m : Nat) : Int) : L2.Key)
theorem mem_keysOf {cs met : List Nat} {n : Nat} : (Sum.inl ((clsOf cs n : Nat) : Int) : L2.Key) ∈ keysOf cs met ↔ clsOf cs n ∈ met.map (clsOf cs) := by
  unfold keysOf
  rw [List.mem_map, List.mem_map]
  constructor
  · rintro ⟨m, hm, e⟩
    exact ⟨m, hm, by have := Sum.inl.inj e; omega⟩
  · rintro ⟨m, hm, e⟩
    exact ⟨m, hm, by rw [e]⟩
theorem idx_keysOf {cs : List Nat} {n : Nat} (met : List Nat) : (@List.idxOf L2.Key instBEqOfDecidableEq (Sum.inl ((clsOf cs n : Nat) : Int)) (keysOf cs met)) = (met.map (clsOf cs)).idxOf (clsOf cs n) := by
  have e := QD.idxOf_map_inj (κ := L2.Key) (fun c : Nat => Sum.inl (c : Int)) (fun a b h => by have := Sum.inl.inj h; omega) (clsOf cs n) (met.map (clsOf cs))
  rw [List.map_map] at e
  exact e
theorem clsOf_get {cs : List Nat} {n : Nat} (h : n < cs.length) : cs[n]? = some (clsOf cs n) := by
  unfold clsOf
  rw [List.getD_eq_getElem?_getD, List.getElem?_eq_getElem h]
  rfl
/-- one more way looked at -/
theorem keysOf_snoc (cs met : List Nat) (n : Nat) : keysOf cs (met ++ [n]) = keysOf cs met ++ [Sum.inl ((clsOf cs n : Nat) : Int)] := by
  unfold keysOf
  rw [List.map_append]
  rfl
theorem keysOf_len (cs met : List Nat) : (keysOf cs met).length = met.length := List.length_map _
/-- the word of the m-th standing of a form of one's own -/
def wAd (Lb : List Tri) (m : Nat) : Addr := ((Lb[m]?).map fun x => x.2.1).getD 0
theorem wAd_of {Lb : List Tri} {m : Nat} {x : Tri} (h : Lb[m]? = some x) : wAd Lb m = x.2.1 := by
  unfold wAd
  rw [h]
  rfl
theorem inner_cons (x : Tri) (L : List Tri) : inner (x :: L) = x.2.1 :: x.2.2 :: inner L := rfl
theorem wAd_mem {Lb : List Tri} {m : Nat} (h : m < Lb.length) : wAd Lb m ∈ inner Lb := by
  have e := List.getElem?_eq_getElem h
  rw [wAd_of e]
  exact List.mem_flatMap.mpr ⟨_, List.getElem_mem h, by simp⟩
theorem wAd_inj : ∀ {Lb : List Tri} {i j : Nat}, (inner Lb).Nodup → i < Lb.length → j < Lb.length → wAd Lb i = wAd Lb j → i = j
  | [], i, j, _, h, _, _ => absurd h (Nat.not_lt_zero _)
  | x :: Lb, 0, 0, _, _, _, _ => rfl
  | x :: Lb, 0, j + 1, nd, _, hj, e => by
    rw [inner_cons, List.nodup_cons] at nd
    have hm := wAd_mem (Lb := Lb) (m := j) (by simpa using hj)
    have e' : x.2.1 = wAd Lb j := e
    exact absurd (by rw [e']; exact List.mem_cons_of_mem _ hm) nd.1
  | x :: Lb, i + 1, 0, nd, hi, _, e => by
    rw [inner_cons, List.nodup_cons] at nd
    have hm := wAd_mem (Lb := Lb) (m := i) (by simpa using hi)
    have e' : wAd Lb i = x.2.1 := e
    exact absurd (by rw [← e']; exact List.mem_cons_of_mem _ hm) nd.1
  | x :: Lb, i + 1, j + 1, nd, hi, hj, e => by
    rw [inner_cons, List.nodup_cons, List.nodup_cons] at nd
    have e' : wAd Lb i = wAd Lb j := e
    rw [wAd_inj nd.2.2 (by simpa using hi) (by simpa using hj) e']
/-- one more standing, with a word that stood already -/
theorem newL_snoc {H0 H H' : Hp} {L : List Tri} {F : Form} {t a b : Addr} {s : Std} (n : NewL H0 H L F) (e : Same H H') (ha : a ∉ inner L) (hb : H b = none) (hab : a ≠ b) (h1 : H' t = some (.tup [.ref a, .ref b])) (h2 : WordAt H' a s.1) (h3 : WaysAt H' b s.2) (f1 : Fresh H0 t) (f2 : Fresh H0 a) (f3 : Fresh H0 b) :
    NewL H0 H' (L ++ [(t, a, b)]) (F ++ [s]) := by
  have hap : ∀ x ∈ inner L, ∀ y ∈ inner [(t, a, b)], x ≠ y := by
    intro x hx y hy z
    subst z
    rcases List.mem_cons.mp hy with hy | hy
    · rw [hy] at hx
      exact ha hx
    · rw [List.mem_singleton.mp hy] at hx
      obtain ⟨xs, hxs⟩ := n.there hx
      rw [hb] at hxs
      cases hxs
  have hone : (inner [(t, a, b)]).Nodup := by
    show [a, b].Nodup
    simp [hab]
  have hnd : (inner L ++ inner [(t, a, b)]).Nodup := List.nodup_append.mpr ⟨n.nd, hone, hap⟩
  refine ⟨Paired.snoc (n.same e).at_ ⟨h1, h2, h3⟩, fun x hx => ?_, by rw [inner_append]; exact hnd⟩
  rcases List.mem_append.mp hx with hx | hx
  · exact n.new x hx
  · rw [List.mem_singleton.mp hx]
    exact ⟨f1, f2, f3⟩
/-- where the words of what is told stand -/
structure Told (H : Hp) (Lb : List Tri) (met : List Nat) (L : List Tri) : Prop where
  words : L.map (fun x => x.2.1) = (met.take L.length).map (wAd Lb)
  ways : ∀ x ∈ L, H x.2.2 = none
theorem Told.out {H : Hp} {Lb : List Tri} {met : List Nat} {L : List Tri} {F : Form} {cs : List Nat} (T : Told H Lb met L) (nd : (inner Lb).Nodup) (hl : Lb.length = F.length) (M : Met F cs met) {k m : Nat} (hk : L.length = k) (hm : met[k]? = some m) {u : HO} (hu : H (wAd Lb m) = some u) : wAd Lb m ∉ inner L := fun h => by
  obtain ⟨x, hx, hq⟩ := mem_inner h
  rcases hq with hq | hq
  · have h1 : x.2.1 ∈ L.map (fun x => x.2.1) := List.mem_map.mpr ⟨x, hx, rfl⟩
    rw [T.words] at h1
    obtain ⟨m', h2, h3⟩ := List.mem_map.mp h1
    obtain ⟨j, hj, e⟩ := List.mem_iff_getElem.mp h2
    rw [List.length_take] at hj
    rw [List.getElem_take] at e
    have hjm : j < met.length := by omega
    have e2 : met[j]? = some m' := by rw [List.getElem?_eq_getElem hjm, e]
    have l1 := M.lt m (List.mem_of_getElem? hm)
    have l2 := M.lt m' (List.mem_of_getElem? e2)
    have e3 := wAd_inj nd (by omega) (by omega) (h3.trans hq.symm)
    subst e3
    have nm : met.Nodup := (List.pairwise_map.mp M.nd).imp fun h e => h (congrArg _ e)
    have := nd_ix nm e2 hm
    omega
  · rw [hq, T.ways x hx] at hu
    cases hu
theorem Told.snoc {H : Hp} {Lb : List Tri} {met m6 tl : List Nat} {L : List Tri} {k m : Nat} {t b : Addr} (T : Told H Lb met L) (hk : L.length = k) (hm : met[k]? = some m) (h6 : m6 = met ++ tl) (hb : H b = none) : Told H Lb m6 (L ++ [(t, wAd Lb m, b)]) := by
  subst hk
  have hlt : L.length < met.length := (List.getElem?_eq_some_iff.mp hm).1
  refine ⟨?_, fun x hx => ?_⟩
  · rw [List.map_append, T.words, h6, List.length_append, List.length_singleton, List.take_append_of_le_length (by omega), List.take_succ, hm, List.map_append]
    rfl
  · rcases List.mem_append.mp hx with hx | hx
    · exact T.ways x hx
    · rw [List.mem_singleton.mp hx]
      exact hb
def spInOrder : Sp := fun vs H Q _ => ∃ (b a : Addr) (F : Form) (cs : List Nat) (H0 : Hp) (Lb : List Tri), vs = [.ref b, .ref a] ∧ NewF H0 H b Lb F ∧ (∀ q, H q = none → Fresh H0 q) ∧ IntsAt H a cs ∧ cs.length = F.length ∧ 0 < F.length ∧ F.length ≤ 5000 ∧ WaysIn F ∧
  ∀ (p : Addr) (L : List Tri) (H' : Hp), Same H H' → NewF H0 H' p L (inOrder F cs) → Q (.ref p) H'
theorem ok_in_order_met (X : TX K mg) : FnOk P w K mg base CX0 1 X.d_in_order_met.a X.d_in_order_met.fd ["standings", "classes"] spInOrder := by
  have nd := sc_in_order_met.nd
  refine X.d_in_order_met.F.ok sc_in_order_met (fun vs H Q E h => ?_) (fun cdv A outer s H vs Q E hr h => ?_)
  · obtain ⟨b, a, F, cs, H0, Lb, rfl, _⟩ := h
    rfl
  · obtain ⟨b, a, F, cs, H0, Lb, rfl, nF, fr0, hc, hlen, hp, hz, hin, k⟩ := h
    refine ⟨_, (pss_cons (ps_set (i := 2) nd rfl (Or.inr rfl) (pe_disp (pps_cons (pe_ix (QB.ix_listK K) (pv 1) pe_int (fun _ _ => rfl)) pe_int pps_nil) (by rfl) (by rfl) (fun z => by cases z) (by decide))) (pss_cons (ps_set (i := 3) nd rfl (Or.inl rfl) (pe_lst (pa_cons pe_int pa_nil))) (pss_cons (ps_set (i := 4) nd rfl (Or.inl rfl) (pe_lst pa_nil)) (pss_cons (ps_while PassesOwn.never (pt_cmpR op_lt (pe_callB (QB.call_lenK K) (by rfl) X.n_len PySem.boot_len (pa_cons (pv 4) pa_nil)) (pe_callB (QB.call_lenK K) (by rfl) X.n_len PySem.boot_len (pa_cons (pv 3) pa_nil)) (nomark _)) (pss_cons (ps_asg (pe_ix (QB.ix_listK K) (pv 0) (pe_ix (QB.ix_listK K) (pv 3) (pe_callB (QB.call_lenK K) (by rfl) X.n_len PySem.boot_len (pa_cons (pv 4) pa_nil)) (fun _ _ => rfl)) (fun _ _ => rfl)) (pg_tup (by rfl) (pgs_cons (pg_name (i := 5) nd rfl (Or.inl rfl)) (pgs_cons (pg_name (i := 6) nd rfl (Or.inl rfl)) (pgs_nil))))) (pss_cons (ps_for PassesOwn.never rfl (QB.pi_listK K (pv 6)) (pg_name (i := 7) nd rfl (Or.inl rfl)) (pss_one (ps_if (PW.pt (pw_and (pt_cmpR op_notN (pv 7) pe_non (nomark _)) (pw_and1 (pt_cmp (pc_dnotin (hu_of hr) (pe_ix (QB.ix_listK K) (pv 1) (pv 7) (fun _ _ => rfl)) (pv 2)))))) (pss_cons (ps_dput (hu_of hr) (pv 2) (pe_ix (QB.ix_listK K) (pv 1) (pv 7) (fun _ _ => rfl)) (pe_callB (QB.call_lenK K) (by rfl) X.n_len PySem.boot_len (pa_cons (pv 3) pa_nil)) rfl) (pss_one (ps_expr (QB.pe_bmK K PySem.F.plainAttrs_list PySem.F.slot_list_append PySem.F.type_list_append mt_append (pv 3) (pa_cons (pv 7) pa_nil))))) pss_nil))) (pss_one (ps_expr (QB.pe_bmK K PySem.F.plainAttrs_list PySem.F.slot_list_append PySem.F.type_list_append mt_append (pv 4) (pa_cons (pe_tup (pa_cons (pv 5) (pa_cons (pe_lc (own := [("way", 7)]) (g := gName 7) (tt := tYes) rfl nd (QB.pi_listK K (pv 6)) (blkOk_by (N := ["standings", "classes", "numbers", "met", "told", "beside", "ways", "way"]) (sc := defScope s_in_order_met) (by decide +kernel)) (fun _ _ _ _ _ => pg_name (i := 7) nd rfl (Or.inl rfl)) (fun _ _ _ _ _ => pts_nil) (fun _ _ _ _ _ => (pe_ifExp (pt_cmpR op_isN (pv 7) pe_non (nomark _)) pe_non (pe_dget (hu_of hr) (pv 2) (pe_ix (QB.ix_listK K) (pv 1) (pv 7) (fun _ _ => rfl)) (fun _ _ => rfl))))) pa_nil))) pa_nil))))))) (pss_one (ps_ret (pv 4))))))), ?_⟩
    try dsimp only [Cx.nox, Cx.wish, cxOf]
    have hF := nF.form
    have hLb := nF.all.len
    refine fun d hd => ?_
    have s1 : Same H (upd H d (.dK [])) := same_new hd
    refine ⟨_, rfl, _, _, _, _, rfl, rfl, SqL.of (Same.ints s1 hc), atI_nat (j := 0) (ints_get (clsOf_get (by omega))), upd_same, [(Sum.inl ((clsOf cs 0 : Nat) : Int), .int 0)], rfl, by show 1 ≤ 15; decide, ?_⟩
    rw [upd_upd]
    have s2 : Same H (upd H d (.dK (L2.mergeK [] [(Sum.inl ((clsOf cs 0 : Nat) : Int), .int 0)]))) := same_new hd
    refine ⟨by show 1 ≤ sizeLine; decide, fun l hl => ?_⟩
    have s3 := Same.new s2 (o := .lst [V.int 0]) hl
    refine ⟨Nat.zero_le _, fun t ht => ?_⟩
    have s4 := Same.new s3 (o := .lst []) ht
    have ndl : d ≠ l := ne_of_none upd_same hl
    have nlt : l ≠ t := ne_of_none upd_same ht
    have ndt : d ≠ t := ne_of_none ((upd_ne ndl).trans upd_same) ht
    refine ⟨fun m σ H' => ∃ (met : List Nat) (told : Form) (L : List Tri) (v5 v6 v7 : Option V), σ = [some (.ref b), some (.ref a), some (.ref d), some (.ref l), some (.ref t), v5, v6, v7] ∧ Same H H' ∧ H' d = some (.dK (QD.dictFrom 0 (keysOf cs met))) ∧ IntsAt H' l met ∧
      H' t = some (.lst (L.map fun x => V.ref x.1)) ∧ NewL H0 H' L told ∧ Told H Lb met L ∧ t ∉ inner L ∧ l ∉ inner L ∧ Met F cs met ∧ told.length ≤ met.length ∧ m = F.length - told.length ∧ ∃ f, F.length + 1 ≤ f + told.length ∧ orderLoop F cs f met told = inOrder F cs,
      ⟨_, [0], [], [], none, none, none, rfl, s4, ?_, ?_, upd_same, NewL.nil, ⟨rfl, fun _ h => nomatch h⟩, by simp [inner], by simp [inner], ⟨by simp, fun m hm => ?_⟩, by simp, rfl, _, Nat.le_refl _, rfl⟩, ?_⟩
    · rw [upd_ne ndt, upd_ne ndl, upd_same]
      rfl
    · exact (upd_ne nlt).trans upd_same
    · rw [List.mem_singleton.mp hm]
      exact hp
    · have d0 := hd
      have l0 : H l = none := s2.free hl
      have t0 : H t = none := s3.free ht
      rintro m σ H1 ⟨met, told, L, v5, v6, v7, rfl, s5, hD, hM, hT, nL, tl_, oT, oL, met_, htm, rfl, f, hf, hloop⟩
      have hLl := nL.len
      have hml := met_.len
      refine ⟨_, rfl, _, _, rfl, .inl (SqL.of hT), _, rfl, _, _, rfl, .inl (SqL.of hM), _, _, rfl, rfl, _, rfl, ?_⟩
      rw [List.length_map, List.length_map, hLl]
      cases f with
      | zero => omega
      | succ f =>
        unfold orderLoop at hloop
        by_cases hlt : told.length < met.length
        · rw [if_pos (decide_eq_true (by omega))]
          rw [if_pos hlt] at hloop
          refine ⟨_, fun σ' H' h => h, ?_⟩
          have hmt : met[told.length]? = some (met.getD told.length 0) := by
            rw [List.getD_eq_getElem?_getD, List.getElem?_eq_getElem hlt]
            rfl
          have hmF : met.getD told.length 0 < F.length := met_.lt _ (List.mem_of_getElem? hmt)
          generalize met.getD told.length 0 = mm at hloop hmt hmF
          have hFm := stdOf_get hmF
          generalize stdOf F mm = sd at hloop hFm
          have hsin := hin sd (mem_of hFm)
          obtain ⟨xb, hxb, f4, f5, f6⟩ := nF.all.get hFm
          have f1 := nF.lst
          have f3 : (Lb.map fun x => V.ref x.1)[mm]? = some (.ref xb.1) := by rw [List.getElem?_map, hxb]; rfl
          have ew := wAd_of hxb
          have fw : Fresh H0 xb.2.1 := (nF.all.new xb (List.mem_of_getElem? hxb)).2.1
          have ow := Told.out tl_ nF.all.nd hLb met_ hLl hmt (u := .lst (vS sd.1)) (by rw [ew]; exact f5)
          rw [ew] at ow
          obtain ⟨tt, p1, p2⟩ := xb
          have f3 : (Lb.map fun x => V.ref x.1)[mm]? = some (.ref tt) := f3
          have f4 : H tt = some (.tup [.ref p1, .ref p2]) := f4
          have f5 : WordAt H p1 sd.1 := f5
          have f6 : WaysAt H p2 sd.2 := f6
          have ow : p1 ∉ inner L := ow
          have fw : Fresh H0 p1 := fw
          have ew : wAd Lb mm = p1 := ew
          -- word, ways = standings[met[len(told)]]
          refine ⟨_, rfl, _, rfl, _, rfl, _, _, rfl, .inl (SqL.of hT), ?_⟩
          rw [List.length_map, hLl]
          refine ⟨_, _, _, _, rfl, rfl, SqL.of hM, atI_nat (ints_get hmt), _, _, _, _, rfl, rfl, SqL.of (s5 _ _ f1), atI_nat f3, ?_⟩
          refine ⟨tt, _, rfl, SqT.of (s5 _ _ f4), rfl, _, _, rfl, _, _, rfl, rfl, ?_⟩
          -- for way in ways
          refine ⟨_, rfl, _, rfl, ⟨_, SqL.of (Same.ways s5 f6)⟩, ?_⟩
          refine for_it (walk_listWs (K := K) (a := p2) (ws := sd.2)) (fun i σ H' => ∃ (v7 : Option V), σ = [some (.ref b), some (.ref a), some (.ref d), some (.ref l), some (.ref t), some (.ref p1), some (.ref p2), v7] ∧ Same H H' ∧ H' d = some (.dK (QD.dictFrom 0 (keysOf cs (visitAll cs met (sd.2.take i))))) ∧
            IntsAt H' l (visitAll cs met (sd.2.take i)) ∧ H' t = some (.lst (L.map fun x => V.ref x.1)) ∧ NewL H0 H' L told) ⟨_, rfl, s5, hD, hM, hT, nL⟩ (fun i σ H' _ ⟨_, _, s6, _⟩ => Same.ways s6 f6) ?_ ?_
          · rintro i x σ H2 H3 hi ⟨v7, rfl, s6, hD6, hM6, hT6, nL6⟩ ⟨y, hy, rfl, rfl⟩
            have htk : sd.2.take (i + 1) = sd.2.take i ++ [y] := by rw [List.take_succ, hy]; rfl
            have hyF : ∀ n, y = some n → n < F.length := fun n e => hsin.2 n (by rw [← e]; exact List.mem_of_getElem? hy)
            have metI : Met F cs (visitAll cs met (sd.2.take i)) := met_.visitAll fun n hn => hsin.2 n (List.mem_of_mem_take hn)
            have hvs : visitAll cs met (sd.2.take (i + 1)) = visit cs (visitAll cs met (sd.2.take i)) y := by
              rw [htk]
              unfold visitAll
              rw [List.foldl_append]
              rfl
            generalize visitAll cs met (sd.2.take i) = mi at hD6 hM6 metI hvs
            have hmi := metI.len
            refine ⟨_, rfl, rfl, _, rfl, ?_⟩
            rw [vW_is]
            cases y with
            | none =>
              refine iteF ?_
              refine ⟨_, rfl, s6, ?_, ?_, hT6, nL6⟩
              · rw [hvs]
                exact hD6
              · rw [hvs]
                exact hM6
            | some n =>
              have hn := hyF n rfl
              have hcn := ints_get (clsOf_get (cs := cs) (n := n) (by omega))
              refine iteT ?_
              refine ⟨_, rfl, _, rfl, _, _, _, _, rfl, rfl, SqL.of (Same.ints s6 hc), atI_nat hcn, _, rfl, d, _, rfl, DGet.k (k := Sum.inl ((clsOf cs n : Nat) : Int)) hD6, _, rfl, ?_⟩
              rw [QD.valV_dictFrom]
              by_cases hmem : clsOf cs n ∈ mi.map (clsOf cs)
              · rw [if_pos (mem_keysOf.mpr hmem)]
                refine ⟨_, rfl, s6, ?_, ?_, hT6, nL6⟩
                · rw [hvs]
                  simp only [visit, if_pos hmem]
                  exact hD6
                · rw [hvs]
                  simp only [visit, if_pos hmem]
                  exact hM6
              · rw [if_neg (fun z => hmem (mem_keysOf.mp z))]
                have hnd := metI.visit (w := some n) hyF
                have hvn : visit cs mi (some n) = mi ++ [n] := by simp only [visit, if_neg hmem]
                refine ⟨_, rfl, _, _, rfl, .inl (SqL.of hM6), ?_⟩
                refine ⟨_, rfl, _, rfl, _, rfl, _, _, _, _, rfl, rfl, SqL.of (Same.ints s6 hc), atI_nat hcn, d, _, rfl, DPut.k (k := Sum.inl ((clsOf cs n : Nat) : Int)) hD6 (sz_lt (by rw [QD.dictFrom_len, keysOf_len]; omega)), ?_⟩
                have s7 := Same.mut (p := d) (o := .dK (putK (QD.dictFrom 0 (keysOf cs mi)) (Sum.inl ((clsOf cs n : Nat) : Int)) (.int ((mi.map fun (n : Nat) => V.int (n : Int)).length : Nat)))) s6 d0
                have hM7 := (upd_ne (a := d) (o := .dK (putK (QD.dictFrom 0 (keysOf cs mi)) (Sum.inl ((clsOf cs n : Nat) : Int)) (.int ((mi.map fun (n : Nat) => V.int (n : Int)).length : Nat)))) (ne_of hM6 hD6 (fun z => nomatch z))).trans hM6
                refine ⟨_, rfl, .inl ⟨rfl, _, SqL.of hM7⟩, _, rfl, l, _, _, rfl, rfl, hM7, sz_lt (by rw [List.length_map]; omega), ?_⟩
                refine ⟨_, rfl, Same.mut s7 l0, ?_, ?_, ?_, ?_⟩
                · rw [upd_ne (ne_of hD6 hM6 (fun z => nomatch z)), upd_same, hvs, hvn, keysOf_snoc, List.length_map]
                  have e := QD.putK_dictFrom (n := 0) (l := keysOf cs mi) (k := (Sum.inl ((clsOf cs n : Nat) : Int) : L2.Key)) (fun z => hmem (mem_keysOf.mp z))
                  rw [Nat.zero_add, keysOf_len] at e
                  rw [e]
                · rw [hvs, hvn]
                  unfold IntsAt
                  rw [upd_same, List.map_append]
                  rfl
                · exact (upd_ne nlt.symm).trans ((upd_ne ndt.symm).trans hT6)
                · exact NewL.upd (nL6.updD hD6) hM7 oL
          · rintro σ H2 ⟨v7, rfl, s6, hD6, hM6, hT6, nL6⟩
            rw [List.take_length] at hD6 hM6
            have met6 : Met F cs (visitAll cs met sd.2) := met_.visitAll fun n hn => hsin.2 n hn
            have hhas := fun n hn => visitAll_has cs sd.2 met n hn
            have hpre := visitAll_pre cs sd.2 met
            generalize visitAll cs met sd.2 = m6 at hD6 hM6 met6 hhas hpre hloop
            have hm6 := met6.len
            have hwf := f5
            -- told.append((list(word), [..]))
            refine ⟨_, rfl, .inl ⟨rfl, _, SqL.of hT6⟩, ?_⟩
            refine ⟨_, rfl, _, rfl, _, rfl, ⟨_, SqL.of (Same.ways s6 f6)⟩, fun q2 hq2 => ?_⟩
            refine lc_map (walk_listWs (K := K) (a := p2) (ws := sd.2)) hq2 (by have := hsin.1; omega) (fun H3 s8 => Same.ways (s6.trans s8) f6) (fun j => vW (newWay cs m6 (sd.2[j]?).join)) ?_ ?_
            · rintro j x H3 H4 kk hj s8 ⟨y, hy, rfl, rfl⟩ hk
              have hk' := hk H4 (Same.refl H4)
              rw [hy] at hk'
              refine ⟨rfl, _, rfl, rfl, _, rfl, ?_⟩
              rw [vW_is]
              cases y with
              | none => exact iteT hk'
              | some n =>
                have hns := List.mem_of_getElem? hy
                have hn := hsin.2 n hns
                refine iteF ⟨_, rfl, _, rfl, _, rfl, _, _, _, _, rfl, rfl, SqL.of (Same.ints (s6.trans s8) hc), atI_nat (ints_get (clsOf_get (by omega))), d, _, rfl, (by
                  have e := DGet.k (k := (Sum.inl ((clsOf cs n : Nat) : Int) : L2.Key)) (s8 _ _ hD6)
                  rw [QD.valV_dictFrom, if_pos (mem_keysOf.mpr (hhas n hns)), idx_keysOf, Nat.zero_add] at e
                  exact e), hk'⟩
            · intro H3 s8 hq3
              rw [range_map_get _ sd.2 (fun w => vW (newWay cs m6 w)) (fun j x hx => by rw [hx]; rfl)] at hq3
              refine ⟨by show 2 ≤ sizeLine; decide, fun q3 hq3' => ?_⟩
              have s9 := Same.new s8 (o := .tup [V.ref p1, V.ref q2]) hq3'
              have s10 := s6.trans s9
              have n2 : H2 q2 = none := hq2
              have n3 : H2 q3 = none := s8.free hq3'
              have n2' : H q2 = none := s6.free n2
              have e1 : WordAt (upd H3 q3 (.tup [V.ref p1, V.ref q2])) p1 sd.1 := Same.word s10 f5
              have e2 : (upd H3 q3 (.tup [V.ref p1, V.ref q2])) q2 = some (.lst (vWs (newStd cs m6 sd).2)) := by
                rw [upd_ne (ne_of_none hq3 hq3'), hq3]
                unfold vWs newStd
                rw [List.map_map]
                rfl
              have nq12 : p1 ≠ q2 := ne_of_none f5 n2'
              have nn := newL_snoc nL6 s9 ow n2 nq12 (t := q3) (s := newStd cs m6 sd) upd_same e1 e2 (fr0 _ (s6.free n3)) fw (fr0 _ n2')
              have oT' := not_inner_snoc (t := q3) oT (ne_of_none f5 t0).symm (ne_of_none hT6 n2)
              have oL' := not_inner_snoc (t := q3) oL (ne_of_none f5 l0).symm (ne_of_none hM6 n2)
              have hT9 := s9 _ _ hT6
              refine ⟨t, _, _, rfl, rfl, hT9, sz_lt (by rw [List.length_map]; omega), ?_⟩
              obtain ⟨tl, hpre⟩ := hpre
              have hlen6 : met.length ≤ m6.length := by rw [hpre, List.length_append]; omega
              refine ⟨_, ?_, m6, told ++ [newStd cs m6 sd], L ++ [(q3, p1, q2)], _, _, _, rfl, Same.mut s10 t0, ?_, ?_, ?_, nn.upd hT9 oT', by rw [← ew]; exact tl_.snoc hLl hmt hpre n2', oT', oL', met6, ?_, rfl, f, ?_, hloop⟩
              · rw [List.length_append, List.length_singleton]
                omega
              · exact (upd_ne ndt).trans (s9 _ _ hD6)
              · exact (upd_ne nlt).trans (s9 _ _ hM6)
              · rw [upd_same, List.map_append]
                rfl
              · rw [List.length_append, List.length_singleton]
                omega
              · rw [List.length_append, List.length_singleton]
                omega
        · rw [if_neg (by simp; omega)]
          rw [if_neg hlt] at hloop
          rw [← hloop] at k
          exact ⟨_, rfl, k t L H1 s5 ⟨hT, nL, fr0 _ t0, oT⟩⟩
end
end Law
end

section
set_option Elab.async false
set_option linter.all false
set_option maxRecDepth 100000
set_option maxHeartbeats 8000000
namespace Law
open PySem PySem.Spec PyProof.Rows L2 LamX QB QM
abbrev Tof {K : PySem.W.Frag} {mg : Str → Option Value} (X : TX K mg) : List (Addr × Str) := [(X.lam_P, ("without_needless_ways" : Str) ++ ".<locals>." ++ "<lambda>")]
section
variable {P : Program} {w : World} {K : PySem.W.Frag} {mg : Str → Option Value} {base : Heap}
theorem rep_flat (n : Nat) (x : V) : (List.replicate n [x]).flatten = List.replicate n x := by
  induction n with
  | zero => rfl
  | succ n ih => rw [List.replicate_succ, List.flatten_cons, ih, List.replicate_succ]; rfl
theorem ixN_of {n j : Nat} (h : j < n) : ixN n (j : Int) = some j := by
  unfold ixN
  rw [if_pos (by omega), if_pos (by omega), Int.toNat_natCast]
theorem set_same {α : Type} {l : List α} {k : Nat} {x : α} (h : l[k]? = some x) : l.set k x = l := by
  refine List.ext_getElem? fun i => ?_
  by_cases e : k = i
  · subst e
    rw [List.getElem?_set_self (List.getElem?_eq_some_iff.mp h).1, h]
  · rw [List.getElem?_set_ne e]
theorem vWs_set (ws : Ways) (k : Nat) (w : Option Nat) : (vWs ws).set k (vW w) = vWs (ws.set k w) := (List.map_set ..).symm
theorem tri_get {L : List Tri} {k : Nat} {x : Tri} (h : L[k]? = some x) : (L.map fun x => V.ref x.1)[k]? = some (.ref x.1) := by
  rw [List.getElem?_map, h]
  rfl
/-- tags that are texts, words of tags -/
structure WordsOk (tags : List Str) (F : Form) : Prop where
  txt : ∀ t ∈ tags, PyData.strOk t = true
  sub : ∀ s ∈ F, ∀ t ∈ s.1, t ∈ tags
  len : ∀ s ∈ F, s.1.length ≤ 5000
theorem WordsOk.ok {tags : List Str} {F : Form} (o : WordsOk tags F) {k : Nat} {s : Std} (h : F[k]? = some s) : ∀ t ∈ s.1, PyData.strOk t = true := fun t ht => o.txt t (o.sub s (mem_of h) t ht)
def spNeedless (T : List (Addr × Str)) : Sp := fun vs H Q _ => ∃ (a b : Addr) (tags : List Str) (F : Form), vs = [.ref a, .ref b] ∧ WordAt H a tags ∧ FormAt H b F ∧ Good tags F ∧ WordsOk tags F ∧ tags.length ≤ 100 ∧ Tabs T H ∧
  ∀ (p : Addr) (L : List Tri) (H' : Hp), Ext T H H' → Tabs T H' → NewF H H' p L (needless tags F) → Q (.ref p) H'
theorem ok_without_needless_ways (X : TX K mg) (TB : LamX.TabB base mg X.lam_c X.lam_P) : FnOk P w K mg base CX0 2 X.d_without_needless_ways.a X.d_without_needless_ways.fd ["tags", "standings"] (spNeedless (Tof X)) := by
  have nd := sc_without_needless_ways.nd
  refine X.lam_F.ok sc_without_needless_ways (fun vs H Q E h => ?_) (fun A outer s H vs Q E hr h => ?_)
  · obtain ⟨a, b, tags, F, rfl, _⟩ := h
    rfl
  · obtain ⟨a, b, tags, F, rfl, hT, hF, g, ok, htl, tb, k⟩ := h
    refine ⟨_, (pss_cons (ps_set (i := 2) nd rfl (Or.inl rfl) (pe_call (ok_copied X) (hr.mono (by decide)) rfl X.d_copied.mg X.d_copied.F.kp X.d_copied.b .nil pass0 (pa_cons (pv 1) pa_nil))) (pss_cons (ps_set (i := 3) nd rfl (Or.inl rfl) (pe_op op_rep (pe_lst (pa_cons pe_bl pa_nil)) (pe_callB (QB.call_lenK K) (by rfl) X.n_len PySem.boot_len (pa_cons (pv 1) pa_nil)))) (pss_cons (ps_for PassesOwn.never rfl (QB.pi_listK K (QL.pe_sortLamK (i := 1) (T := Tof X) K (by rfl) X.n_sorted X.n_len (QL.pe_range1 (by rfl) X.n_range (pe_callB (QB.call_lenK K) (by rfl) X.n_len PySem.boot_len (pa_cons (pv 1) pa_nil))) rfl rfl TB rfl (List.mem_singleton.mpr rfl) (fun p hp _ => by cases List.mem_singleton.mp hp; rfl) hr)) (pg_name (i := 4) nd rfl (Or.inl rfl)) (pss_cons (ps_asg (pe_ix (QB.ix_listK K) (pv 2) (pv 4) (fun _ _ => rfl)) (pg_tup (by rfl) (pgs_cons (pg_name (i := 5) nd rfl (Or.inl rfl)) (pgs_cons (pg_name (i := 6) nd rfl (Or.inl rfl)) (pgs_nil))))) (pss_cons (ps_for PassesOwn.never rfl (QB.pi_enumK K (by rfl) X.n_enumerate (pa_cons (pv 0) pa_nil)) (pg_tup (by rfl) (pgs_cons (pg_name (i := 7) nd rfl (Or.inl rfl)) (pgs_cons (pg_name (i := 8) nd rfl (Or.inl rfl)) (pgs_nil)))) (pss_cons (ps_set (i := 9) nd rfl (Or.inl rfl) (pe_ix (QB.ix_listK K) (pv 6) (pv 7) (fun _ _ => rfl))) (pss_one (ps_if (PW.pt (pw_and (pt_cmpR op_notN (pv 9) pe_non (nomark _)) (pw_and (pt_val (pe_ix (QB.ix_listK K) (pv 3) (pv 9) (fun _ _ => rfl))) (pw_and1 (pt_cmpR (QB.op_eqDK K hr.units) (pe_ix (QB.ix_tupK K) (pe_ix (QB.ix_listK K) (pv 1) (pv 9) (fun _ _ => rfl)) pe_int (fun _ _ => rfl)) (pe_op op_cat (pv 5) (pe_lst (pa_cons (pv 8) pa_nil))) (nomark _)))))) (pss_one (ps_asg pe_non (pg_sub (pv 6) (pv 7) set_list))) pss_nil)))) (pss_one (ps_asg (pe_call (ok_is_settled_at X) (hr.mono (by decide)) rfl X.d_is_settled_at.mg X.d_is_settled_at.F.kp X.d_is_settled_at.b .nil pass0 (pa_cons (pe_ix (QB.ix_listK K) (pv 2) (pv 4) (fun _ _ => rfl)) pa_nil)) (pg_sub (pv 3) (pv 4) set_list)))))) (pss_one (ps_ret (pv 2)))))), ?_⟩
    try dsimp only [Cx.nox, Cx.wish, cxOf]
    have hlen := g.pos
    have hsm := g.small
    -- needed = copied(standings); settled = [False] * len(standings)
    refine ⟨_, rfl, b, F, rfl, hF, by omega, fun p L H1 s1 nF => ?_⟩
    obtain ⟨vs1, hv1, hvl1⟩ := FormAt.lst (Same.form s1 hF)
    refine ⟨by show 1 ≤ sizeLine; decide, fun q0 hq0 => ?_⟩
    have s2 := Same.new s1 (o := .lst [V.bl false]) hq0
    refine ⟨_, rfl, _, _, rfl, .inl (SqL.of ((same_new hq0) _ _ hv1)), ?_⟩
    refine ⟨_, _, _, rfl, rfl, upd_same, by omega, by omega, by rw [Int.toNat_natCast, hvl1]; exact sz_le (by simp; omega), fun q hq => ?_⟩
    rw [Int.toNat_natCast, hvl1, rep_flat]
    have s3 := Same.new s2 (o := .lst (List.replicate F.length (V.bl false))) hq
    have s13 : Same H1 (upd (upd H1 q0 (.lst [V.bl false])) q (.lst (List.replicate F.length (V.bl false)))) := Same.new (same_new hq0) hq
    have nF3 := nF.same s13
    have q0n : H q = none := s2.free hq
    have npq : p ≠ q := ne_of_none ((same_new hq0) _ _ nF.lst) hq
    have qin : q ∉ inner L := fun z => by
      obtain ⟨xs, hx⟩ := nF.all.there z
      exact ne_of_none ((same_new hq0) _ _ hx) hq rfl
    have hq3 : (upd (upd H1 q0 (.lst [V.bl false])) q (.lst (List.replicate F.length (V.bl false)))) q = some (.lst ((List.replicate F.length false).map V.bl)) := by rw [upd_same, List.map_replicate]
    generalize (upd (upd H1 q0 (.lst [V.bl false])) q (.lst (List.replicate F.length (V.bl false)))) = H3 at s3 nF3 hq3 s13
    -- sorted(..)
    obtain ⟨ts, hts, hpr⟩ := Same.form s3 hF
    have htsl := Paired.length hpr
    refine ⟨_, rfl, _, _, rfl, .inl (SqL.of hts), _, rfl, fun r hr0 => ?_⟩
    rw [List.length_map, htsl]
    have s4 := Same.new s3 (o := .rng 0 (F.length : Int)) hr0
    have s34 : Same H3 (upd H3 r (.rng 0 (F.length : Int))) := same_new hr0
    refine ⟨r, F.length, b, ts, QM.keyOf F, rfl, upd_same, by omega, rfl, SqL.of (s34 _ _ hts), htsl, fun j t ht => ?_, tb.ext s4, fun p5 H5 e5 t5 n5 => ?_⟩
    · obtain ⟨s, hs, x, y, h1, h2, h3⟩ := paired_get' hpr ht
      refine ⟨x, [.ref y], vS s.1, SqT.of (s34 _ _ h1), SqL.of (s34 _ _ h2), ?_⟩
      unfold QM.keyOf
      rw [vS_len]
      have hj := (List.getElem?_eq_some_iff.mp hs).1
      rw [stdOf_get hj] at hs
      cases hs
      rfl
    · have E5 : Ext (Tof X) H H5 := (Ext.of s4).trans ⟨e5, fun _ => t5⟩
      have E35 : Ext (Tof X) H3 H5 := (Ext.of s34).trans ⟨e5, fun _ => t5⟩
      have f5 : Fresh H p5 := E5.free n5
      have E6 := E5.new' (o := .lst ((byLen F).map fun (j : Nat) => V.int (j : Int))) n5
      have E56 : Ext (Tof X) H3 (upd H5 p5 (.lst ((byLen F).map fun (j : Nat) => V.int (j : Int)))) := E35.new' n5
      have T6 := E6.2 tb
      refine ⟨p5, rfl, ⟨_, SqL.of upd_same⟩, ?_⟩
      have nF6 := nF3.ext E56
      have hq6 := E56.lst hq3
      have n5p : p ≠ p5 := ne_of_none (E35.lst nF3.lst) n5
      have n5q : q ≠ p5 := ne_of_none (E35.lst hq3) n5
      have n5i : p5 ∉ inner L := fun z => by
        obtain ⟨xs, hx⟩ := nF3.all.there z
        exact ne_of_none (E35.lst hx) n5 rfl
      have hblen := byLen_len F
      refine for_it (walk_list (K := K) (a := p5) (xs := (byLen F).map fun (j : Nat) => V.int (j : Int))) (fun i σ H' => ∃ (v4 v5 v6 v7 v8 v9 : Option V), σ = [some (.ref a), some (.ref b), some (.ref p), some (.ref q), v4, v5, v6, v7, v8, v9] ∧ Ext (Tof X) H H' ∧ Tabs (Tof X) H' ∧
        H' p = some (.lst (L.map fun x => V.ref x.1)) ∧ NewL H H' L (needFold tags F ((byLen F).take i)).1 ∧ H' q = some (.lst ((needFold tags F ((byLen F).take i)).2.map V.bl)) ∧ H' p5 = some (.lst ((byLen F).map fun (j : Nat) => V.int (j : Int))))
        ⟨none, none, none, none, none, none, rfl, E6, T6, nF6.lst, nF6.all, hq6, upd_same⟩ (fun i σ H' _ ⟨_, _, _, _, _, _, _, _, _, _, _, _, h⟩ => SqL.of h) ?_ ?_
      · rintro i x σ H7 H8 hi ⟨v4, v5, v6, v7, v8, v9, rfl, E7, T7, hp7, nL7, hq7, h57⟩ ⟨rfl, hx⟩
        rw [List.length_map, hblen] at hi
        have hbi : (byLen F)[i]? = some ((byLen F)[i]'(by omega)) := List.getElem?_eq_getElem _
        have hstep : needFold tags F ((byLen F).take (i + 1)) = needStep tags F (needFold tags F ((byLen F).take i)) ((byLen F)[i]'(by omega)) := by
          unfold needFold
          rw [List.take_succ, hbi, List.foldl_append]
          rfl
        have hkF : (byLen F)[i]'(by omega) < F.length := byLen_lt (List.mem_of_getElem? hbi)
        have pr : Pruned tags F (needFold tags F ((byLen F).take i)) := Pruned.fold g _ _ (Pruned.start tags F) fun k hk => byLen_lt (List.mem_of_mem_take hk)
        rw [List.getElem?_map, hbi] at hx
        cases hx
        rw [hstep]
        generalize (byLen F)[i]'(by omega) = kk at hkF
        generalize needFold tags F ((byLen F).take i) = st at nL7 hq7 pr
        obtain ⟨N, S⟩ := st
        have hNl : N.length = F.length := pr.len
        have hSl : S.length = F.length := pr.lenS
        have hN : N[kk]? = some (stdOf N kk) := stdOf_get (by omega)
        obtain ⟨w1, w2, w3⟩ := pr.word kk _ hN
        have hsl : (stdOf N kk).2.length = tags.length := w2.trans (g.ways (stdOf_get hkF))
        have hPl : (pruneWays tags F S (stdOf N kk)).length = (stdOf N kk).2.length := (pruneWays_len hsl).trans hsl.symm
        have hwF : (stdOf N kk).1.length ≤ 5000 := by rw [w1]; exact ok.len _ (mem_of (stdOf_get hkF))
        have hwok : ∀ t ∈ (stdOf N kk).1, PyData.strOk t = true := by rw [w1]; exact ok.ok (stdOf_get hkF)
        have hstp : needStep tags F (N, S) kk = (N.set kk ((stdOf N kk).1, pruneWays tags F S (stdOf N kk)), S.set kk ((pruneWays tags F S (stdOf N kk)).all Option.isNone)) := rfl
        rw [hstp]
        have hPg : ∀ (j : Nat) (t : Str) (y : Option Nat), tags[j]? = some t → (stdOf N kk).2[j]? = some y → (pruneWays tags F S (stdOf N kk))[j]? = some (pruneWay F S (stdOf N kk).1 t y) := fun j t y h1 h2 => pruneWays_get h1 h2
        generalize pruneWays tags F S (stdOf N kk) = Pw at hPl hPg
        generalize stdOf N kk = sd at hN w1 w2 w3 hsl hPl hwF hwok hPg
        obtain ⟨x3, hx3, g1, g2, g3⟩ := NewL.get nL7 hN
        have hfr := nL7.new x3 (List.mem_of_getElem? hx3)
        have hin3 : x3.2.2 ∈ inner L := List.mem_flatMap.mpr ⟨x3, List.mem_of_getElem? hx3, by simp⟩
        have np3 : p ≠ x3.2.2 := fun z => nF.out (z ▸ hin3)
        have nq3 : q ≠ x3.2.2 := fun z => qin (z ▸ hin3)
        have n53 : p5 ≠ x3.2.2 := fun z => n5i (z ▸ hin3)
        refine ⟨_, rfl, _, rfl, _, _, _, _, rfl, rfl, SqL.of hp7, atI_nat (tri_get hx3), ?_⟩
        refine ⟨x3.1, _, rfl, SqT.of g1, rfl, _, _, rfl, _, _, rfl, rfl, ?_⟩
        refine ⟨_, rfl, _, _, rfl, SqL.of (E7.word hT), ?_⟩
        refine for_it (walk_enumW (K := K) (a := a) (w := tags)) (fun j σ H' => ∃ (v7 v8 v9 : Option V), σ = [some (.ref a), some (.ref b), some (.ref p), some (.ref q), some (.int (kk : Int)), some (.ref x3.2.1), some (.ref x3.2.2), v7, v8, v9] ∧ Ext (Tof X) H H' ∧
          H' p = some (.lst (L.map fun x => V.ref x.1)) ∧ NewL H H' L (N.set kk (sd.1, Pw.take j ++ sd.2.drop j)) ∧ H' q = some (.lst (S.map V.bl)) ∧ H' p5 = some (.lst ((byLen F).map fun (j : Nat) => V.int (j : Int))))
          ⟨v7, v8, v9, rfl, E7, hp7, by rw [show (sd.1, Pw.take 0 ++ sd.2.drop 0) = sd from rfl, set_same hN]; exact nL7, hq7, h57⟩ (fun j σ H' _ ⟨_, _, _, _, E, _⟩ => E.word hT) ?_ ?_
        · rintro j v σ H9 H10 hj ⟨u7, u8, u9, rfl, E9, hp9, nL9, hq9, h59⟩ ⟨tp, t, ht, ntp, rfl, rfl⟩
          have htt : t ∈ tags := List.mem_of_getElem? ht
          have s9 : Same H9 (upd H9 tp (.tup [.int (j : Int), .str t])) := same_new ntp
          have E10 := E9.trans (.of s9)
          have nL10 := nL9.same s9
          have hp10 := s9 _ _ hp9
          have hq10 := s9 _ _ hq9
          have h510 := s9 _ _ h59
          refine ⟨tp, _, rfl, SqT.of upd_same, rfl, _, _, rfl, _, _, rfl, rfl, ?_⟩
          generalize upd H9 tp (.tup [.int (j : Int), .str t]) = H10 at s9 E10 nL10 hp10 hq10 h510
          have hj2 : j < sd.2.length := by omega
          have hy : sd.2[j]? = some sd.2[j] := List.getElem?_eq_getElem hj2
          have hset : (N.set kk (sd.1, Pw.take j ++ sd.2.drop j))[kk]? = some (sd.1, Pw.take j ++ sd.2.drop j) := List.getElem?_set_self (by omega)
          obtain ⟨x', hx', y1, y2, y3⟩ := nL10.get hset
          rw [hx3] at hx'
          cases hx'
          have hmix : (Pw.take j ++ sd.2.drop j)[j]? = some sd.2[j] := (mix_get hPl hj2).trans hy
          have hPj := hPg j t _ ht hy
          refine ⟨_, rfl, _, rfl, _, _, _, _, rfl, rfl, SqL.of y3, atI_nat (vWs_get hmix), ?_⟩
          refine ⟨_, rfl, rfl, _, rfl, ?_⟩
          rw [vW_is]
          -- the way stays
          have stay : ∀ (H' : Hp) (u9 : V), Same H10 H' → Pw[j]? = some sd.2[j] → ∃ (v7 v8 v9 : Option V), [some (V.ref a), some (.ref b), some (.ref p), some (.ref q), some (.int (kk : Int)), some (.ref x3.2.1), some (.ref x3.2.2), some (.int (j : Int)), some (.str t), some u9] = [some (.ref a), some (.ref b), some (.ref p), some (.ref q), some (.int (kk : Int)), some (.ref x3.2.1), some (.ref x3.2.2), v7, v8, v9] ∧ Ext (Tof X) H H' ∧
              H' p = some (.lst (L.map fun x => V.ref x.1)) ∧ NewL H H' L (N.set kk (sd.1, Pw.take (j + 1) ++ sd.2.drop (j + 1))) ∧ H' q = some (.lst (S.map V.bl)) ∧ H' p5 = some (.lst ((byLen F).map fun (j : Nat) => V.int (j : Int))) := fun H' u9 s' e =>
            ⟨_, _, _, rfl, E10.trans (.of s'), s' _ _ hp10, by rw [← mix_same hPl e hy]; exact nL10.same s', s' _ _ hq10, s' _ _ h510⟩
          generalize sd.2[j] = y at hy hmix hPj stay
          cases y with
          | none => exact iteF (stay H10 _ (Same.refl _) hPj)
          | some n =>
            have hnF : n < F.length := g.to _ (mem_of (stdOf_get hkF)) n (w3 n (List.mem_of_getElem? hy))
            have hSn : (S.map V.bl)[n]? = some (.bl (S.getD n false)) := by
              rw [List.getElem?_map, List.getElem?_eq_getElem (by omega), List.getD_eq_getElem?_getD, List.getElem?_eq_getElem (by omega)]
              rfl
            refine iteT ?_
            refine ⟨_, rfl, _, rfl, _, _, _, _, rfl, rfl, SqL.of hq10, atI_nat hSn, _, rfl, ?_⟩
            have hPj' : Pw[j]? = some (if (S.getD n false && decide ((stdOf F n).1 = sd.1 ++ [t])) = true then none else some n) := hPj
            cases hSb : S.getD n false with
            | false =>
              rw [hSb, Bool.false_and, if_neg Bool.false_ne_true] at hPj'
              exact iteF (stay H10 _ (Same.refl _) hPj')
            | true =>
              rw [hSb, Bool.true_and] at hPj'
              refine iteT ?_
              obtain ⟨vs2, tt, z1, z2, f1, f2, f3, f4, f5, f6⟩ := (E10.form hF).at (stdOf_get hnF)
              refine ⟨_, rfl, _, rfl, _, _, _, _, rfl, rfl, SqL.of f1, atI_nat f3, _, _, _, _, rfl, rfl, SqT.of f4, rfl, ?_⟩
              refine ⟨_, rfl, _, rfl, by show 1 ≤ sizeLine; decide, fun r1 hr1 => ?_⟩
              have sA : Same H10 (upd H10 r1 (.lst [V.str t])) := same_new hr1
              refine ⟨_, _, _, _, rfl, rfl, sA _ _ y2, upd_same, by rw [vS_len]; exact sz_le (by simp; omega), fun r2 hr2 => ?_⟩
              have sB : Same H10 (upd (upd H10 r1 (.lst [V.str t])) r2 (.lst (vS sd.1 ++ [V.str t]))) := Same.new sA hr2
              have hw2 : WordAt (upd (upd H10 r1 (.lst [V.str t])) r2 (.lst (vS sd.1 ++ [V.str t]))) r2 (sd.1 ++ [t]) := by
                unfold WordAt
                rw [upd_same, ← vS_append]
                rfl
              generalize upd (upd H10 r1 (.lst [V.str t])) r2 (.lst (vS sd.1 ++ [V.str t])) = H11 at sB hw2
              refine eq_words (Same.word sB f5) hw2 (ok.ok (stdOf_get hnF)) (fun u hu => ?_) ⟨_, rfl, ?_⟩
              · rcases List.mem_append.mp hu with hu | hu
                · exact hwok u hu
                · rw [List.mem_singleton.mp hu]
                  exact ok.txt t htt
              · by_cases he : (stdOf F n).1 = sd.1 ++ [t]
                · rw [if_pos (decide_eq_true he)] at hPj'
                  rw [if_pos (decide_eq_true he)]
                  have E11 := E10.trans (.of sB)
                  have nL11 := nL10.same sB
                  have y11 := Same.ways sB y3
                  refine ⟨_, rfl, _, rfl, x3.2.2, _, _, j, rfl, rfl, y11, ixN_of (by rw [vWs_len, List.length_append, List.length_take, List.length_drop]; omega), ?_⟩
                  have en := nL11.setWays (ws := (Pw.take j ++ sd.2.drop j).set j none) hx3 hset
                  rw [List.set_set, mix_set hPl hPj'] at en
                  have ew : (vWs (Pw.take j ++ sd.2.drop j)).set j .non = vWs (Pw.take (j + 1) ++ sd.2.drop (j + 1)) := by
                    rw [show V.non = vW none from rfl, vWs_set, mix_set hPl hPj']
                  rw [ew]
                  exact ⟨_, _, _, rfl, E11.mut hfr.2.2 y11, (upd_ne np3).trans (sB _ _ hp10), en, (upd_ne nq3).trans (sB _ _ hq10), (upd_ne n53).trans (sB _ _ h510)⟩
                · rw [if_neg (by simpa using he)] at hPj'
                  rw [if_neg (by simpa using he)]
                  exact stay H11 _ sB hPj'
        · rintro σ H9 ⟨u7, u8, u9, rfl, E9, hp9, nL9, hq9, h59⟩
          have hfull : Pw.take tags.length ++ sd.2.drop tags.length = Pw := by
            rw [List.take_of_length_le (by omega), List.drop_eq_nil_of_le (by omega), List.append_nil]
          rw [hfull] at nL9
          have hset : (N.set kk (sd.1, Pw))[kk]? = some (sd.1, Pw) := List.getElem?_set_self (by omega)
          obtain ⟨x', hx', y1, y2, y3⟩ := nL9.get hset
          rw [hx3] at hx'
          cases hx'
          refine ⟨_, rfl, _, rfl, _, _, _, _, rfl, rfl, SqL.of hp9, atI_nat (tri_get hx3), ?_⟩
          refine ⟨_, _, _, Pw, rfl, y1, y3, by omega, fun H10 s10 => ?_⟩
          refine ⟨_, rfl, _, rfl, q, _, _, kk, rfl, rfl, s10 _ _ hq9, ixN_of (by rw [List.length_map]; omega), ?_⟩
          have E10 := E9.trans (.of s10)
          have E11 := E10.mut (o := .lst ((S.map V.bl).set kk (.bl (Pw.all Option.isNone)))) (.of q0n) (s10 _ _ hq9)
          refine ⟨_, _, _, _, _, _, rfl, E11, E11.2 tb, (upd_ne npq).trans (s10 _ _ hp9), (nL9.same s10).upd (s10 _ _ hq9) qin, ?_, (upd_ne n5q.symm).trans (s10 _ _ h59)⟩
          rw [upd_same, List.map_set]
      · rintro σ H7 ⟨v4, v5, v6, v7, v8, v9, rfl, E7, T7, hp7, nL7, hq7, h57⟩
        rw [List.length_map, hblen, ← hblen, List.take_length] at nL7
        exact ⟨_, rfl, k p L H7 E7 T7 ⟨hp7, nL7, nF.new, nF.out⟩⟩
end
end Law
end

section
set_option Elab.async false
set_option linter.all false
set_option maxRecDepth 100000
set_option maxHeartbeats 8000000
namespace Law
open PySem PySem.Spec PyProof.Rows L2 LamX QB QM
section
variable {P : Program} {w : World} {K : PySem.W.Frag} {mg : Str → Option Value} {base : Heap}
theorem pruned_needless {tags : List Str} {F : Form} (g : Good tags F) : Pruned tags F (needFold tags F (byLen F)) := Pruned.fold g _ _ (Pruned.start tags F) fun k hk => byLen_lt hk
theorem needless_len {tags : List Str} {F : Form} (g : Good tags F) : (needless tags F).length = F.length := (pruned_needless g).len
theorem needless_std {tags : List Str} {F : Form} (g : Good tags F) {s : Std} (h : s ∈ needless tags F) : ∃ s' ∈ F, s.1 = s'.1 ∧ s.2.length = s'.2.length ∧ ∀ n, some n ∈ s.2 → some n ∈ s'.2 := by
  obtain ⟨k, hk, e⟩ := List.mem_iff_getElem.mp h
  have e' : (needless tags F)[k]? = some s := by rw [List.getElem?_eq_getElem hk, e]
  obtain ⟨h1, h2, h3⟩ := (pruned_needless g).word k s e'
  have hkF : k < F.length := by rw [← needless_len g]; exact hk
  exact ⟨stdOf F k, mem_of (stdOf_get hkF), h1, h2, h3⟩
theorem needless_in {tags : List Str} {F : Form} (g : Good tags F) (ht : tags.length ≤ 100) : WaysIn (needless tags F) := fun s hs => by
  obtain ⟨s', h1, h2, h3, h4⟩ := needless_std g hs
  exact ⟨by rw [h3, g.len s' h1]; exact ht, fun n hn => by rw [needless_len g]; exact g.to s' h1 n (h4 n hn)⟩
theorem alike_len {F : Form} : (alike F).length = F.length := by
  have all : ∀ (f many : Nat) (cs : List Nat), cs.length = F.length → (alikeLoop F f many cs).length = F.length := by
    intro f
    induction f with
    | zero => exact fun _ _ h => h
    | succ f ih =>
      intro many cs h
      unfold alikeLoop
      split
      · exact ih _ _ (part_len h)
      · exact h
  exact all _ _ _ (by rw [QD.numb_len]; exact List.length_map _)
def spLeast (T : List (Addr × Str)) : Sp := fun vs H Q _ => ∃ (a b : Addr) (tags : List Str) (F : Form), vs = [.ref a, .ref b] ∧ WordAt H a tags ∧ FormAt H b F ∧ Good tags F ∧ WordsOk tags F ∧ tags.length ≤ 100 ∧ Tabs T H ∧
  ∀ (p : Addr) (L : List Tri) (H' : Hp), Ext T H H' → Tabs T H' → NewF H H' p L (least tags F) → Q (.ref p) H'
theorem ok_least_form (X : TX K mg) (TB : LamX.TabB base mg X.lam_c X.lam_P) : FnOk P w K mg base CX0 4 X.d_least_form.a X.d_least_form.fd ["tags", "standings"] (spLeast (Tof X)) := by
  have nd := sc_least_form.nd
  refine X.d_least_form.F.ok sc_least_form (fun vs H Q E h => ?_) (fun cdv A outer s H vs Q E hr h => ?_)
  · obtain ⟨a, b, tags, F, rfl, _⟩ := h
    rfl
  · obtain ⟨a, b, tags, F, rfl, hT, hF, g, ok, htl, tb, k⟩ := h
    refine ⟨_, (pss_cons (ps_set (i := 2) nd rfl (Or.inl rfl) (pe_call (ok_without_needless_ways X TB) (hr.mono (by decide)) rfl X.d_without_needless_ways.mg X.d_without_needless_ways.F.kp X.d_without_needless_ways.b .nil pass0 (pa_cons (pv 0) (pa_cons (pv 1) pa_nil)))) (pss_one (ps_ret (pe_call (ok_in_order_met X) (hr.mono (by decide)) rfl X.d_in_order_met.mg X.d_in_order_met.F.kp X.d_in_order_met.b .nil pass0 (pa_cons (pv 2) (pa_cons (pe_call (ok_alike_classes X) (hr.mono (by decide)) rfl X.d_alike_classes.mg X.d_alike_classes.F.kp X.d_alike_classes.b .nil pass0 (pa_cons (pv 2) pa_nil)) pa_nil)))))), ?_⟩
    try dsimp only [Cx.nox, Cx.wish, cxOf]
    have hsm := g.small
    have hpos := g.pos
    refine ⟨_, rfl, _, rfl, a, b, tags, F, rfl, hT, hF, g, ok, htl, tb, fun p L H1 e1 t1 n1 => ?_⟩
    have hlen := needless_len g
    have hin := needless_in g htl
    have hwl : ∀ s ∈ needless tags F, s.1.length ≤ 10000 := fun s hs => by
      obtain ⟨s', h1, h2, _⟩ := needless_std g hs
      rw [h2]
      have := ok.len s' h1
      omega
    refine ⟨_, rfl, _, rfl, p, needless tags F, rfl, n1.form, by omega, by omega, hin, hwl, fun c H2 s2 nc hc => ?_⟩
    refine ⟨p, c, needless tags F, alike (needless tags F), H, L, rfl, n1.same s2, fun q hq => (e1.trans (.of s2)).free hq, hc, alike_len, by omega, by omega, hin, fun q L2 H3 s3 n3 => ?_⟩
    have e3 := (e1.trans (.of s2)).trans (.of s3)
    exact k q L2 H3 e3 (e3.2 tb) n3
end
end Law
end

section
set_option Elab.async false
set_option linter.all false
set_option maxRecDepth 100000
set_option maxHeartbeats 8000000
namespace Law
open PySem PySem.Spec PyProof.Rows L2 LamX QB QM
theorem kit_int_int {K : PySem.W.Frag} : PySem.W.kitOne K (.type "int") (.type "int") = some true := kit_ty (by decide +kernel)
theorem kit_int_bool {K : PySem.W.Frag} : PySem.W.kitOne K (.type "int") (.type "bool") = some false := kit_ty (by decide +kernel)
theorem kit_list_list {K : PySem.W.Frag} : PySem.W.kitOne K (.type "list") (.type "list") = some true := kit_ty (by decide +kernel)
theorem kit_str_str {K : PySem.W.Frag} : PySem.W.kitOne K (.type "str") (.type "str") = some true := kit_ty (by decide +kernel)
theorem kit_tuple_tuple {K : PySem.W.Frag} : PySem.W.kitOne K (.type "tuple") (.type "tuple") = some true := kit_ty (by decide +kernel)
section
variable {P : Program} {w : World} {K : PySem.W.Frag} {mg : Str → Option Value} {base : Heap}
/-- is_number of a whole number -/
def spIsNumber : Sp := fun vs H Q _ => ∃ (n lo hi : Int), vs = [.int n, .int lo, .int hi] ∧ Q (.bl (decide (lo ≤ n ∧ n ≤ hi))) H
theorem ok_is_number (X : TX K mg) : FnOk P w K mg base CX0 1 X.d_is_number.a X.d_is_number.fd ["x", "least", "most"] spIsNumber := by
  have nd := sc_is_number.nd
  refine X.d_is_number.F.ok sc_is_number (fun vs H Q E h => ?_) (fun cdv A outer s H vs Q E hr h => ?_)
  · obtain ⟨n, lo, hi, rfl, _⟩ := h
    rfl
  · obtain ⟨n, lo, hi, rfl, k⟩ := h
    refine ⟨_, (pss_one (ps_ret (pe_and (pe_callB (QB.call_isiK K) (by rfl) X.n_isinstance QB.bo_isinstance (pa_cons (pv 0) (pa_cons (pe_bltn (v := .ty "int") (by rfl) X.n_int QB.bo_int rfl) pa_nil))) (pe_and (pe_not (pe_callB (QB.call_isiK K) (by rfl) X.n_isinstance QB.bo_isinstance (pa_cons (pv 0) (pa_cons (pe_bltn (v := .ty "bool") (by rfl) X.n_bool QB.bo_bool rfl) pa_nil)))) (pe_one (pe_chain op_le op_le (pv 1) (pv 0) (pv 2))))))), ?_⟩
    try dsimp only [Cx.nox, Cx.wish, cxOf]
    refine ⟨_, rfl, _, _, _, _, true, rfl, .ty "int", .base (.int n), kit_int_int, true, rfl, ?_⟩
    refine iteT ?_
    refine ⟨_, rfl, _, _, _, _, false, rfl, .ty "bool", .base (.int n), kit_int_bool, false, rfl, true, rfl, ?_⟩
    refine iteT ?_
    refine ⟨_, rfl, _, rfl, _, _, rfl, rfl, _, rfl, ?_⟩
    by_cases h1 : lo ≤ n
    · rw [if_pos (decide_eq_true h1)]
      refine ⟨_, rfl, _, _, rfl, rfl, ?_⟩
      have e : decide (lo ≤ n ∧ n ≤ hi) = decide (n ≤ hi) := by simp [h1]
      rw [e] at k
      exact k
    · rw [if_neg (by simpa using h1)]
      have e : decide (lo ≤ n ∧ n ≤ hi) = false := by simp [h1]
      rw [e] at k
      exact k
/-- is_list of a list -/
def spIsList : Sp := fun vs H Q _ => ∃ (a : Addr) (xs : List V) (lo hi : Int), vs = [.ref a, .int lo, .int hi] ∧ H a = some (.lst xs) ∧ Q (.bl (decide (lo ≤ (xs.length : Int) ∧ (xs.length : Int) ≤ hi))) H
theorem ok_is_list (X : TX K mg) : FnOk P w K mg base CX0 1 X.d_is_list.a X.d_is_list.fd ["x", "least", "most"] spIsList := by
  have nd := sc_is_list.nd
  refine X.d_is_list.F.ok sc_is_list (fun vs H Q E h => ?_) (fun cdv A outer s H vs Q E hr h => ?_)
  · obtain ⟨a, xs, lo, hi, rfl, _⟩ := h
    rfl
  · obtain ⟨a, xs, lo, hi, rfl, ha, k⟩ := h
    refine ⟨_, (pss_one (ps_ret (pe_and (pe_callB (QB.call_isiK K) (by rfl) X.n_isinstance QB.bo_isinstance (pa_cons (pv 0) (pa_cons (pe_bltn (v := .ty "list") (by rfl) X.n_list QB.bo_list rfl) pa_nil))) (pe_one (pe_chain op_le op_le (pv 1) (pe_callB (QB.call_lenK K) (by rfl) X.n_len PySem.boot_len (pa_cons (pv 0) pa_nil)) (pv 2)))))), ?_⟩
    try dsimp only [Cx.nox, Cx.wish, cxOf]
    refine ⟨_, rfl, _, _, _, _, true, rfl, .ty "list", .base (.lst ha), kit_list_list, true, rfl, ?_⟩
    refine iteT ?_
    refine ⟨_, rfl, _, rfl, _, _, rfl, .inl (SqL.of ha), _, _, rfl, rfl, _, rfl, ?_⟩
    by_cases h1 : lo ≤ (xs.length : Int)
    · rw [if_pos (decide_eq_true h1)]
      refine ⟨_, rfl, _, _, rfl, rfl, ?_⟩
      have e : decide (lo ≤ (xs.length : Int) ∧ (xs.length : Int) ≤ hi) = decide ((xs.length : Int) ≤ hi) := by simp [h1]
      rw [e] at k
      exact k
    · rw [if_neg (by simpa using h1)]
      have e : decide (lo ≤ (xs.length : Int) ∧ (xs.length : Int) ≤ hi) = false := by simp [h1]
      rw [e] at k
      exact k
def letters : Str := "abcdefghijklmnopqrstuvwxyz"
/-- a name of a tag -/
structure NameOk (t : Str) : Prop where
  pos : 1 ≤ t.length
  len : t.length ≤ 8
  all : ∀ c ∈ t.cps.toList, c ∈ letters.cps.toList
theorem NameOk.txt {t : Str} (h : NameOk t) : PyData.strOk t = true := by
  unfold PyData.strOk
  rw [← Array.all_toList, List.all_eq_true]
  intro c hc
  have := h.all c hc
  have small : ∀ c ∈ letters.cps.toList, decide (c < 0x110000) = true := by decide +kernel
  exact small c this
def spIsName : Sp := fun vs H Q _ => ∃ t : Str, vs = [.str t] ∧ NameOk t ∧ ∀ H', Same H H' → Q (.bl true) H'
theorem ok_is_name (X : TX K mg) : FnOk P w K mg base CX0 1 X.d_is_name.a X.d_is_name.fd ["x"] spIsName := by
  have nd := sc_is_name.nd
  refine X.d_is_name.F.ok sc_is_name (fun vs H Q E h => ?_) (fun cdv A outer s H vs Q E hr h => ?_)
  · obtain ⟨t, rfl, _⟩ := h
    rfl
  · obtain ⟨t, rfl, ho, k⟩ := h
    refine ⟨_, (pss_cons (ps_if (PW.pt (pw_or (pt_not (pt_val (pe_callB (QB.call_isiK K) (by rfl) X.n_isinstance QB.bo_isinstance (pa_cons (pv 0) (pa_cons (pe_bltn (v := .ty "str") (by rfl) X.n_str QB.bo_str rfl) pa_nil))))) (pw_or1 (pt_not (pt_chain op_le op_le pe_int (pe_callB call_len_str (by rfl) X.n_len PySem.boot_len (pa_cons (pv 0) pa_nil)) (pe_gc rfl X.c_MOST_LETTERS)))))) (pss_one (ps_ret pe_bl)) pss_nil) (pss_one (ps_ret (pe_callB (QB.cr_allK K rfl) (by rfl) X.n_all QB.bo_all (pa_cons (pe_lc (own := [("letter", 1)]) (g := gName 1) (tt := tYes) rfl nd (pi_str (pv 0)) (blkOk_by (N := ["x", "letter"]) (sc := defScope s_is_name) (by decide +kernel)) (fun _ _ _ _ _ => pg_name (i := 1) nd rfl (Or.inl rfl)) (fun _ _ _ _ _ => pts_nil) (fun _ _ _ _ _ => (pe_cmpR op_in_sign (pv 1) (pe_gc rfl X.c_LETTERS) rfl))) pa_nil))))), ?_⟩
    try dsimp only [Cx.nox, Cx.wish, cxOf]
    have h1 := ho.pos
    have h8 := ho.len
    refine ⟨_, rfl, _, _, _, _, true, rfl, .ty "str", .base (.str t), kit_str_str, true, rfl, ?_⟩
    refine iteF ?_
    refine ⟨_, rfl, t, rfl, sz_le (by omega), _, _, rfl, rfl, _, rfl, ?_⟩
    rw [if_pos (decide_eq_true (by omega))]
    refine ⟨_, _, rfl, rfl, _, rfl, ?_⟩
    rw [decide_eq_true (by omega : (t.length : Int) ≤ 8)]
    refine iteF ?_
    refine ⟨_, rfl, t, rfl, fun D hD => ?_⟩
    refine lc_map walk_str hD (by have e : t.cps.size = t.length := rfl; omega) (fun _ _ => True.intro) (fun i => .bl true) ?_ ?_
    · rintro i x H1 H2 kk hi s1 ⟨rfl, c, hc, rfl⟩ hk
      refine ⟨rfl, _, rfl, c, letters, rfl, rfl, ?_⟩
      rw [decide_eq_true (ho.all c (by
        have := List.mem_of_getElem? (show t.cps.toList[i]? = some c by simpa using hc)
        exact this))]
      exact hk _ (Same.refl _)
    · intro H1 s1 e
      have e2 : (List.range t.cps.size).map (fun _ => V.bl true) = (List.replicate t.cps.size true).map V.bl := by
        rw [List.map_replicate, List.map_const', List.length_range]
      refine ⟨_, List.replicate t.cps.size true, rfl, SqL.of (by rw [← e2]; exact e), ?_⟩
      have e3 : (List.replicate t.cps.size true).all id = true := by
        rw [List.all_eq_true]
        intro b hb
        rw [List.eq_of_mem_replicate hb]
        rfl
      rw [e3]
      exact k H1 s1

def spIsTag : Sp := fun vs H Q _ => ∃ (a : Addr) (tags : List Str) (t : Str), vs = [.ref a, .str t] ∧ WordAt H a tags ∧ Q (.bl (decide (t ∈ tags))) H
theorem ok_is_tag (X : TX K mg) : FnOk P w K mg base CX0 1 X.d_is_tag.a X.d_is_tag.fd ["tags", "x"] spIsTag := by
  have nd := sc_is_tag.nd
  refine X.d_is_tag.F.ok sc_is_tag (fun vs H Q E h => ?_) (fun cdv A outer s H vs Q E hr h => ?_)
  · obtain ⟨a, tags, t, rfl, _⟩ := h
    rfl
  · obtain ⟨a, tags, t, rfl, ha, k⟩ := h
    refine ⟨_, (pss_one (ps_ret (pe_and (pe_callB (QB.call_isiK K) (by rfl) X.n_isinstance QB.bo_isinstance (pa_cons (pv 1) (pa_cons (pe_bltn (v := .ty "str") (by rfl) X.n_str QB.bo_str rfl) pa_nil))) (pe_one (pe_cmpR (QB.op_inK K) (pv 1) (pv 0) rfl))))), ?_⟩
    try dsimp only [Cx.nox, Cx.wish, cxOf]
    refine ⟨_, rfl, _, _, _, _, true, rfl, .ty "str", .base (.str t), kit_str_str, true, rfl, ?_⟩
    refine iteT ?_
    refine ⟨_, rfl, _, rfl, a, vS tags, rfl, .inl (SqL.of ha), rfl, vS_flat, ?_⟩
    show Q (.bl (if false = true then !inV (.str t) (vS tags) else inV (.str t) (vS tags))) H
    rw [if_neg Bool.false_ne_true, inV_word]
    exact k
def spIsSubject : Sp := fun vs H Q _ => ∃ (a b : Addr) (tags wd : List Str), vs = [.ref a, .ref b] ∧ WordAt H a tags ∧ WordAt H b wd ∧ wd.length ≤ 10000 ∧ ∀ H', Same H H' → Q (.bl (wd.all fun t => decide (t ∈ tags))) H'
theorem ok_is_subject (X : TX K mg) : FnOk P w K mg base CX0 2 X.d_is_subject.a X.d_is_subject.fd ["tags", "x"] spIsSubject := by
  have nd := sc_is_subject.nd
  refine X.d_is_subject.F.ok sc_is_subject (fun vs H Q E h => ?_) (fun cdv A outer s H vs Q E hr h => ?_)
  · obtain ⟨a, b, tags, wd, rfl, _⟩ := h
    rfl
  · obtain ⟨a, b, tags, wd, rfl, ha, hb, hz, k⟩ := h
    refine ⟨_, (pss_one (ps_ret (pe_and (pe_callB (QB.call_isiK K) (by rfl) X.n_isinstance QB.bo_isinstance (pa_cons (pv 1) (pa_cons (pe_bltn (v := .ty "list") (by rfl) X.n_list QB.bo_list rfl) pa_nil))) (pe_one (pe_callB (QB.cr_allK K rfl) (by rfl) X.n_all QB.bo_all (pa_cons (pe_lc (own := [("tag", 2)]) (g := gName 2) (tt := tYes) rfl nd (QB.pi_listK K (pv 1)) (blkOk_by (N := ["tags", "x", "tag"]) (sc := defScope s_is_subject) (by decide +kernel)) (fun _ _ _ _ _ => pg_name (i := 2) nd rfl (Or.inl rfl)) (fun _ _ _ _ _ => pts_nil) (fun _ _ _ _ _ => (pe_call (ok_is_tag X) (hr.mono (by decide)) rfl X.d_is_tag.mg X.d_is_tag.F.kp X.d_is_tag.b .nil pass0 (pa_cons (pv 0) (pa_cons (pv 2) pa_nil))))) pa_nil)))))), ?_⟩
    try dsimp only [Cx.nox, Cx.wish, cxOf]
    refine ⟨_, rfl, _, _, _, _, true, rfl, .ty "list", .base (.lst hb), kit_list_list, true, rfl, ?_⟩
    refine iteT ?_
    refine ⟨_, rfl, _, rfl, ⟨_, SqL.of hb⟩, fun D hD => ?_⟩
    refine lc_map (walk_listW (K := K) (a := b) (w := wd)) hD (by omega) (fun H1 s1 => Same.word s1 hb) (fun i => .bl (decide ((wd[i]?).getD "" ∈ tags))) ?_ ?_
    · rintro i x H1 H2 kk hi s1 ⟨y, hy, rfl, rfl⟩ hk
      refine ⟨rfl, _, rfl, _, rfl, a, tags, y, rfl, Same.word s1 ha, ?_⟩
      have e := hk _ (Same.refl H2)
      rw [hy] at e
      exact e
    · intro H1 s1 e
      rw [range_map_get _ wd (fun t => .bl (decide (t ∈ tags))) (fun i x hx => by rw [hx]; rfl)] at e
      refine ⟨_, wd.map fun t => decide (t ∈ tags), rfl, SqL.of (by rw [e, List.map_map]; rfl), ?_⟩
      have e2 := k H1 s1
      rw [List.all_map]
      exact e2
/-- standings that may be passed -/
structure StdOk (tags : List Str) (n : Nat) (s : Std) : Prop where
  len : s.1.length ≤ 8
  sub : ∀ t ∈ s.1, t ∈ tags
  ways : s.2.length = tags.length
  to : ∀ m, some m ∈ s.2 → m < n
structure FormOk (tags : List Str) (F : Form) : Prop where
  pos : 1 ≤ F.length
  len : F.length ≤ 30
  all : ∀ s ∈ F, StdOk tags F.length s
structure TagsOk (tags : List Str) : Prop where
  pos : 1 ≤ tags.length
  len : tags.length ≤ 6
  nd : tags.Nodup
  names : ∀ t ∈ tags, NameOk t
theorem FormOk.good {tags : List Str} {F : Form} (f : FormOk tags F) : Good tags F := ⟨f.pos, fun s hs => (f.all s hs).ways, fun s hs n hn => (f.all s hs).to n hn, by have := f.len; omega⟩
theorem FormOk.words {tags : List Str} {F : Form} (f : FormOk tags F) (t : TagsOk tags) : WordsOk tags F := ⟨fun x hx => (t.names x hx).txt, fun s hs => (f.all s hs).sub, fun s hs => by have := (f.all s hs).len; omega⟩
def spIsStanding : Sp := fun vs H Q _ => ∃ (a x p1 p2 : Addr) (tags : List Str) (n : Nat) (s : Std), vs = [.ref a, .int (n : Int), .ref x] ∧ WordAt H a tags ∧ H x = some (.tup [.ref p1, .ref p2]) ∧ WordAt H p1 s.1 ∧ WaysAt H p2 s.2 ∧ StdOk tags n s ∧ tags.length ≤ 100 ∧ ∀ H', Same H H' → Q (.bl true) H'
theorem ok_is_standing (X : TX K mg) : FnOk P w K mg base CX0 3 X.d_is_standing.a X.d_is_standing.fd ["tags", "many", "x"] spIsStanding := by
  have nd := sc_is_standing.nd
  refine X.d_is_standing.F.ok sc_is_standing (fun vs H Q E h => ?_) (fun cdv A outer s H vs Q E hr h => ?_)
  · obtain ⟨a, x, p1, p2, tags, n, s, rfl, _⟩ := h
    rfl
  · obtain ⟨a, x, p1, p2, tags, n, s, rfl, ha, hx, h1, h2, ok, htl, k⟩ := h
    refine ⟨_, (pss_cons (ps_if (PW.pt (pw_or (pt_not (pt_val (pe_callB (QB.call_isiK K) (by rfl) X.n_isinstance QB.bo_isinstance (pa_cons (pv 2) (pa_cons (pe_bltn (v := .ty "tuple") (by rfl) X.n_tuple QB.bo_tuple rfl) pa_nil))))) (pw_or1 (pt_cmpR op_ne (pe_callB (QB.call_lenK K) (by rfl) X.n_len PySem.boot_len (pa_cons (pv 2) pa_nil)) pe_int (nomark _))))) (pss_one (ps_ret pe_bl)) pss_nil) (pss_cons (ps_asg (pv 2) (pg_tup (by rfl) (pgs_cons (pg_name (i := 3) nd rfl (Or.inl rfl)) (pgs_cons (pg_name (i := 4) nd rfl (Or.inl rfl)) (pgs_nil))))) (pss_cons (ps_if (PW.pt (pw_or (pt_not (pt_val (pe_call (ok_is_list X) (hr.mono (by decide)) rfl X.d_is_list.mg X.d_is_list.F.kp X.d_is_list.b .nil pass0 (pa_cons (pv 3) (pa_cons pe_int (pa_cons (pe_gc rfl X.c_LONGEST_WORD) pa_nil)))))) (pw_or1 (pt_not (pt_val (pe_call (ok_is_subject X) (hr.mono (by decide)) rfl X.d_is_subject.mg X.d_is_subject.F.kp X.d_is_subject.b .nil pass0 (pa_cons (pv 0) (pa_cons (pv 3) pa_nil)))))))) (pss_one (ps_ret pe_bl)) pss_nil) (pss_cons (ps_if (pt_not (pt_val (pe_call (ok_is_list X) (hr.mono (by decide)) rfl X.d_is_list.mg X.d_is_list.F.kp X.d_is_list.b .nil pass0 (pa_cons (pv 4) (pa_cons (pe_callB (QB.call_lenK K) (by rfl) X.n_len PySem.boot_len (pa_cons (pv 0) pa_nil)) (pa_cons (pe_callB (QB.call_lenK K) (by rfl) X.n_len PySem.boot_len (pa_cons (pv 0) pa_nil)) pa_nil)))))) (pss_one (ps_ret pe_bl)) pss_nil) (pss_one (ps_ret (pe_callB (QB.cr_allK K rfl) (by rfl) X.n_all QB.bo_all (pa_cons (pe_lc (own := [("way", 5)]) (g := gName 5) (tt := tYes) rfl nd (QB.pi_listK K (pv 4)) (blkOk_by (N := ["tags", "many", "x", "word", "ways", "way"]) (sc := defScope s_is_standing) (by decide +kernel)) (fun _ _ _ _ _ => pg_name (i := 5) nd rfl (Or.inl rfl)) (fun _ _ _ _ _ => pts_nil) (fun _ _ _ _ _ => (pe_or (pe_cmpR op_isN (pv 5) pe_non (nomark _)) (pe_one (pe_call (ok_is_number X) (hr.mono (by decide)) rfl X.d_is_number.mg X.d_is_number.F.kp X.d_is_number.b .nil pass0 (pa_cons (pv 5) (pa_cons pe_int (pa_cons (pe_op op_sub (pv 1) pe_int) pa_nil)))))))) pa_nil)))))))), ?_⟩
    try dsimp only [Cx.nox, Cx.wish, cxOf]
    have o1 := ok.len
    have o2 := ok.ways
    refine ⟨_, rfl, _, _, _, _, true, rfl, .ty "tuple", .base (.tup hx), kit_tuple_tuple, true, rfl, ?_⟩
    refine iteF ?_
    refine ⟨_, rfl, _, _, rfl, .inr (SqT.of hx), rfl, _, rfl, ?_⟩
    refine iteF ?_
    refine ⟨_, rfl, x, _, rfl, SqT.of hx, rfl, _, _, rfl, _, _, rfl, rfl, ?_⟩
    refine ⟨_, rfl, p1, _, _, _, rfl, h1, _, rfl, ?_⟩
    rw [decide_eq_true (by rw [vS_len]; omega)]
    refine iteF ?_
    refine ⟨_, rfl, _, rfl, a, p1, tags, s.1, rfl, ha, h1, by omega, fun H1 s1 => ?_⟩
    rw [show (s.1.all fun t => decide (t ∈ tags)) = true from List.all_eq_true.mpr fun t ht => decide_eq_true (ok.sub t ht)]
    refine ⟨_, rfl, ?_⟩
    refine iteF ?_
    refine ⟨_, rfl, _, rfl, _, _, rfl, .inl (SqL.of (Same.word s1 ha)), _, rfl, _, _, rfl, .inl (SqL.of (Same.word s1 ha)), p2, _, _, _, rfl, Same.ways s1 h2, _, rfl, ?_⟩
    rw [decide_eq_true (by rw [vS_len, vWs_len]; omega)]
    refine iteF ?_
    refine ⟨_, rfl, _, rfl, ⟨_, SqL.of (Same.ways s1 h2)⟩, fun D hD => ?_⟩
    refine lc_map (walk_listWs (K := K) (a := p2) (ws := s.2)) hD (by omega) (fun H2 s2 => Same.ways (s1.trans s2) h2) (fun i => .bl true) ?_ ?_
    · rintro i v H2 H3 kk hi s2 ⟨y, hy, rfl, rfl⟩ hk
      have e := hk _ (Same.refl H3)
      refine ⟨rfl, _, rfl, rfl, _, rfl, ?_⟩
      rw [vW_is]
      cases y with
      | none => exact iteT e
      | some m =>
        have hm := ok.to m (List.mem_of_getElem? hy)
        refine iteF ?_
        refine ⟨_, rfl, _, rfl, _, _, rfl, rfl, _, _, _, rfl, ?_⟩
        rw [decide_eq_true (by omega)]
        exact e
    · intro H2 s2 e
      have e2 : (List.range s.2.length).map (fun _ => V.bl true) = (List.replicate s.2.length true).map V.bl := by
        rw [List.map_replicate, List.map_const', List.length_range]
      refine ⟨_, List.replicate s.2.length true, rfl, SqL.of (by rw [← e2]; exact e), ?_⟩
      have e3 : (List.replicate s.2.length true).all id = true := by
        rw [List.all_eq_true]
        intro b hb
        rw [List.eq_of_mem_replicate hb]
        rfl
      rw [e3]
      exact k H2 (s1.trans s2)
def spCheckTags : Sp := fun vs H Q _ => ∃ (a : Addr) (tags : List Str), vs = [.ref a] ∧ WordAt H a tags ∧ TagsOk tags ∧ ∀ H', Same H H' → Q .non H'
theorem ok_check_tags (X : TX K mg) : FnOk P w K mg base CX0 3 X.d_check_tags.a X.d_check_tags.fd ["tags"] spCheckTags := by
  have nd := sc_check_tags.nd
  refine X.d_check_tags.F.ok sc_check_tags (fun vs H Q E h => ?_) (fun cdv A outer s H vs Q E hr h => ?_)
  · obtain ⟨a, tags, rfl, _⟩ := h
    rfl
  · obtain ⟨a, tags, rfl, ha, ok, k⟩ := h
    refine ⟨_, (pss_cons (ps_if (pt_not (pt_val (pe_call (ok_is_list X) (hr.mono (by decide)) rfl X.d_is_list.mg X.d_is_list.F.kp X.d_is_list.b .nil pass0 (pa_cons (pv 0) (pa_cons pe_int (pa_cons (pe_gc rfl X.c_MOST_TAGS) pa_nil)))))) (pss_one ps_never) pss_nil) (pss_one (ps_for PassesOwn.never rfl (QB.pi_enumK K (by rfl) X.n_enumerate (pa_cons (pv 0) pa_nil)) (pg_tup (by rfl) (pgs_cons (pg_name (i := 1) nd rfl (Or.inl rfl)) (pgs_cons (pg_name (i := 2) nd rfl (Or.inl rfl)) (pgs_nil)))) (pss_one (ps_if (PW.pt (pw_or (pt_not (pt_val (pe_call (ok_is_name X) (hr.mono (by decide)) rfl X.d_is_name.mg X.d_is_name.F.kp X.d_is_name.b .nil pass0 (pa_cons (pv 2) pa_nil)))) (pw_or1 (pt_cmpR (QB.op_inK K) (pv 2) (pe_slice (QB.sl_listK K) (pv 0) po_none (po_some (pv 1))) rfl)))) (pss_one ps_never) pss_nil))))), ?_⟩
    try dsimp only [Cx.nox, Cx.wish, cxOf]
    have o1 := ok.pos
    have o2 := ok.len
    refine ⟨_, rfl, a, _, _, _, rfl, ha, _, rfl, ?_⟩
    rw [decide_eq_true (by rw [vS_len]; omega)]
    refine iteF ?_
    refine ⟨_, rfl, _, _, rfl, SqL.of ha, ?_⟩
    refine for_it (walk_enumW (K := K) (a := a) (w := tags)) (fun i σ H' => ∃ v1 v2, σ = [some (.ref a), v1, v2] ∧ Same H H') ⟨none, none, rfl, Same.refl H⟩ (fun i σ H' _ ⟨_, _, _, s1⟩ => Same.word s1 ha) ?_ ?_
    · rintro i v σ H1 H2 hi ⟨v1, v2, rfl, s1⟩ ⟨tp, t, ht, ntp, rfl, rfl⟩
      have s2 := Same.new s1 (o := .tup [.int (i : Int), .str t]) ntp
      refine ⟨tp, _, rfl, SqT.of upd_same, rfl, _, _, rfl, _, _, rfl, rfl, ?_⟩
      refine ⟨_, rfl, t, rfl, ok.names t (List.mem_of_getElem? ht), fun H3 s3 => ⟨_, rfl, ?_⟩⟩
      have s4 := s2.trans s3
      refine iteF ?_
      refine ⟨_, rfl, _, rfl, _, rfl, _, rfl, a, _, rfl, SqL.of (Same.word s4 ha), fun q hq => ?_⟩
      rw [cut_take, vS_take]
      refine ⟨q, _, rfl, .inl (SqL.of upd_same), rfl, vS_flat, _, rfl, ?_⟩
      rw [if_neg Bool.false_ne_true, inV_word]
      have hnot : t ∉ tags.take i := fun hm => by
        obtain ⟨j, hj, e⟩ := List.mem_iff_getElem.mp hm
        rw [List.length_take] at hj
        rw [List.getElem_take] at e
        have e2 : tags[j]? = some t := by rw [List.getElem?_eq_getElem (by omega), e]
        have := nd_ix ok.nd e2 ht
        omega
      rw [decide_eq_false hnot]
      exact iteF ⟨_, _, rfl, Same.new s4 hq⟩
    · rintro σ H1 ⟨v1, v2, rfl, s1⟩
      exact k H1 s1
def spCheckWord : Sp := fun vs H Q _ => ∃ (a b : Addr) (tags wd : List Str) (most : Int), vs = [.ref a, .ref b, .int most] ∧ WordAt H a tags ∧ WordAt H b wd ∧ (wd.length : Int) ≤ most ∧ (∀ t ∈ wd, t ∈ tags) ∧ ∀ H', Same H H' → Q .non H'
theorem ok_check_word (X : TX K mg) : FnOk P w K mg base CX0 3 X.d_check_word.a X.d_check_word.fd ["tags", "word", "most"] spCheckWord := by
  have nd := sc_check_word.nd
  refine X.d_check_word.F.ok sc_check_word (fun vs H Q E h => ?_) (fun cdv A outer s H vs Q E hr h => ?_)
  · obtain ⟨a, b, tags, wd, most, rfl, _⟩ := h
    rfl
  · obtain ⟨a, b, tags, wd, most, rfl, ha, hb, hz, hin, k⟩ := h
    refine ⟨_, (pss_cons (ps_if (pt_not (pt_val (pe_call (ok_is_list X) (hr.mono (by decide)) rfl X.d_is_list.mg X.d_is_list.F.kp X.d_is_list.b .nil pass0 (pa_cons (pv 1) (pa_cons pe_int (pa_cons (pv 2) pa_nil)))))) (pss_one ps_never) pss_nil) (pss_one (ps_for PassesOwn.never rfl (QB.pi_enumK K (by rfl) X.n_enumerate (pa_cons (pv 1) pa_nil)) (pg_tup (by rfl) (pgs_cons (pg_name (i := 3) nd rfl (Or.inl rfl)) (pgs_cons (pg_name (i := 4) nd rfl (Or.inl rfl)) (pgs_nil)))) (pss_one (ps_if (pt_not (pt_val (pe_call (ok_is_tag X) (hr.mono (by decide)) rfl X.d_is_tag.mg X.d_is_tag.F.kp X.d_is_tag.b .nil pass0 (pa_cons (pv 0) (pa_cons (pv 4) pa_nil))))) (pss_one ps_never) pss_nil))))), ?_⟩
    try dsimp only [Cx.nox, Cx.wish, cxOf]
    refine ⟨_, rfl, _, rfl, b, _, _, _, rfl, hb, _, rfl, ?_⟩
    rw [decide_eq_true (by rw [vS_len]; omega)]
    refine iteF ?_
    refine ⟨_, rfl, _, _, rfl, SqL.of hb, ?_⟩
    refine for_it (walk_enumW (K := K) (a := b) (w := wd)) (fun i σ H' => ∃ v3 v4, σ = [some (.ref a), some (.ref b), some (.int most), v3, v4] ∧ Same H H') ⟨none, none, rfl, Same.refl H⟩ (fun i σ H' _ ⟨_, _, _, s1⟩ => Same.word s1 hb) ?_ ?_
    · rintro i v σ H1 H2 hi ⟨v1, v2, rfl, s1⟩ ⟨tp, t, ht, ntp, rfl, rfl⟩
      have s2 := Same.new s1 (o := .tup [.int (i : Int), .str t]) ntp
      refine ⟨tp, _, rfl, SqT.of upd_same, rfl, _, _, rfl, _, _, rfl, rfl, ?_⟩
      refine ⟨_, rfl, _, rfl, a, tags, t, rfl, Same.word s2 ha, _, rfl, ?_⟩
      rw [decide_eq_true (hin t (List.mem_of_getElem? ht))]
      exact iteF ⟨_, _, rfl, s2⟩
    · rintro σ H1 ⟨v1, v2, rfl, s1⟩
      exact k H1 s1
def spCheckStandings : Sp := fun vs H Q _ => ∃ (a b : Addr) (tags : List Str) (F : Form), vs = [.ref a, .ref b] ∧ WordAt H a tags ∧ FormAt H b F ∧ FormOk tags F ∧ tags.length ≤ 100 ∧ ∀ H', Same H H' → Q .non H'
theorem ok_check_standings (X : TX K mg) : FnOk P w K mg base CX0 4 X.d_check_standings.a X.d_check_standings.fd ["tags", "standings"] spCheckStandings := by
  have nd := sc_check_standings.nd
  refine X.d_check_standings.F.ok sc_check_standings (fun vs H Q E h => ?_) (fun cdv A outer s H vs Q E hr h => ?_)
  · obtain ⟨a, b, tags, F, rfl, _⟩ := h
    rfl
  · obtain ⟨a, b, tags, F, rfl, ha, hF, ok, htl, k⟩ := h
    refine ⟨_, (pss_cons (ps_if (pt_not (pt_val (pe_call (ok_is_list X) (hr.mono (by decide)) rfl X.d_is_list.mg X.d_is_list.F.kp X.d_is_list.b .nil pass0 (pa_cons (pv 1) (pa_cons pe_int (pa_cons (pe_gc rfl X.c_MOST_STANDINGS) pa_nil)))))) (pss_one ps_never) pss_nil) (pss_one (ps_for PassesOwn.never rfl (QB.pi_enumK K (by rfl) X.n_enumerate (pa_cons (pv 1) pa_nil)) (pg_tup (by rfl) (pgs_cons (pg_name (i := 2) nd rfl (Or.inl rfl)) (pgs_cons (pg_name (i := 3) nd rfl (Or.inl rfl)) (pgs_nil)))) (pss_one (ps_if (pt_not (pt_val (pe_call (ok_is_standing X) (hr.mono (by decide)) rfl X.d_is_standing.mg X.d_is_standing.F.kp X.d_is_standing.b .nil pass0 (pa_cons (pv 0) (pa_cons (pe_callB (QB.call_lenK K) (by rfl) X.n_len PySem.boot_len (pa_cons (pv 1) pa_nil)) (pa_cons (pv 3) pa_nil)))))) (pss_one ps_never) pss_nil))))), ?_⟩
    try dsimp only [Cx.nox, Cx.wish, cxOf]
    have o1 := ok.pos
    have o2 := ok.len
    obtain ⟨ts, hts, hpr⟩ := hF
    have htsl := Paired.length hpr
    refine ⟨_, rfl, b, _, _, _, rfl, hts, _, rfl, ?_⟩
    rw [decide_eq_true (by rw [List.length_map]; omega)]
    refine iteF ?_
    refine ⟨_, rfl, _, _, rfl, SqL.of hts, ?_⟩
    refine for_it (walk_enum (K := K) (a := b) (xs := ts.map V.ref)) (fun i σ H' => ∃ v3 v4, σ = [some (.ref a), some (.ref b), v3, v4] ∧ Same H H') ⟨none, none, rfl, Same.refl H⟩ (fun i σ H' _ ⟨_, _, _, s1⟩ => SqL.of (s1 _ _ hts)) ?_ ?_
    · rintro i v σ H1 H2 hi ⟨v1, v2, rfl, s1⟩ ⟨tp, x1, x2, rfl, ntp, rfl, e1, e2⟩
      cases e1
      rw [List.length_map] at hi
      have hti : ts[i]? = some ts[i] := List.getElem?_eq_getElem hi
      have e2 : (ts.map V.ref)[i]? = some x2 := e2
      rw [List.getElem?_map, hti] at e2
      cases e2
      obtain ⟨s, hs, p1, p2, f1, f2, f3⟩ := paired_get' hpr hti
      have s2 := Same.new s1 (o := .tup [.int (i : Int), .ref ts[i]]) ntp
      refine ⟨tp, _, rfl, SqT.of upd_same, rfl, _, _, rfl, _, _, rfl, rfl, ?_⟩
      refine ⟨_, rfl, _, rfl, _, _, rfl, .inl (SqL.of (s2 _ _ hts)), _, rfl, ?_⟩
      refine ⟨a, ts[i], p1, p2, tags, F.length, s, by rw [List.length_map, htsl]; rfl, Same.word s2 ha, s2 _ _ f1, Same.word s2 f2, Same.ways s2 f3, ok.all s (mem_of hs), htl, fun H3 s3 => ⟨_, rfl, ?_⟩⟩
      exact iteF ⟨_, _, rfl, s2.trans s3⟩
    · rintro σ H1 ⟨v1, v2, rfl, s1⟩
      exact k H1 s1
end
end Law
end

section
set_option Elab.async false
set_option linter.all false
set_option maxRecDepth 100000
set_option maxHeartbeats 4000000
namespace Law
open PySem PySem.Spec PyProof.Rows L2 LamX QB QM
section
variable {P : Program} {w : World} {K : PySem.W.Frag} {mg : Str → Option Value} {base : Heap}

theorem wordIns {H : Hp} {x p C dx : Addr} {fs : List (Str × V)} {o : HO} {t : Word} (h : WordAt H p t) (e : H x = some (.ins C dx fs)) : WordAt (upd H x o) p t := Eq.trans (upd_ne (ne_of h e (fun z => nomatch z))) h
theorem formIns {H : Hp} {x p C dx : Addr} {fs : List (Str × V)} {o : HO} {F : Form} (h : FormAt H p F) (e : H x = some (.ins C dx fs)) : FormAt (upd H x o) p F := by
  obtain ⟨ts, h1, h2⟩ := h
  refine ⟨ts, Eq.trans (upd_ne (ne_of h1 e (fun z => nomatch z))) h1, L2.Paired.mapP h2 fun t s q => ?_⟩
  obtain ⟨a, b, q1, q2, q3⟩ := q
  exact ⟨a, b, Eq.trans (upd_ne (ne_of q1 e (fun z => nomatch z))) q1, Eq.trans (upd_ne (ne_of q2 e (fun z => nomatch z))) q2, Eq.trans (upd_ne (ne_of q3 e (fun z => nomatch z))) q3⟩
theorem newIns {H0 H : Hp} {x p C dx : Addr} {fs : List (Str × V)} {o : HO} {L : List Tri} {F : Form} (h : NewF H0 H p L F) (e : H x = some (.ins C dx fs)) : NewF H0 (upd H x o) p L F := by
  refine ⟨Eq.trans (upd_ne (ne_of h.lst e (fun z => nomatch z))) h.lst, ⟨L2.Paired.mapP h.all.at_ fun t s q => ?_, h.all.new, h.all.nd⟩, h.new, h.out⟩
  obtain ⟨q1, q2, q3⟩ := q
  exact ⟨Eq.trans (upd_ne (ne_of q1 e (fun z => nomatch z))) q1, Eq.trans (upd_ne (ne_of q2 e (fun z => nomatch z))) q2, Eq.trans (upd_ne (ne_of q3 e (fun z => nomatch z))) q3⟩

/-- an eater's fields -/
def eatFs (a b : Addr) : List (Str × V) := [("_tags", .ref a), ("_standings", .ref b)]
/-- an eater -/
def EatAt (C : Addr) (H : Hp) (e : Addr) (tags : Word) (G : Form) : Prop := ∃ dx a b, H e = some (.ins C dx (eatFs a b)) ∧ WordAt H a tags ∧ FormAt H b G
theorem EatAt.ext {T : List (Addr × Str)} {C e : Addr} {H H' : Hp} {tags : Word} {G : Form} (h : EatAt C H e tags G) (x : QB.Ext T H H') : EatAt C H' e tags G := by
  obtain ⟨dx, a, b, h1, h2, h3⟩ := h
  exact ⟨dx, a, b, x.get h1, x.word h2, x.form h3⟩
theorem EatAt.same {C e : Addr} {H H' : Hp} {tags : Word} {G : Form} (h : EatAt C H e tags G) (x : Same H H') : EatAt C H' e tags G := h.ext (Ext.of (T := []) x)
/-- a new eater: what it stands on is new -/
structure EatN (C : Addr) (H0 H : Hp) (e dx a b : Addr) (L : List Tri) (tags : Word) (G : Form) : Prop where
  ins : H e = some (.ins C dx (eatFs a b))
  tags : WordAt H a tags
  form : NewF H0 H b L G
  fe : Fresh H0 e
  fa : Fresh H0 a
theorem EatN.at_ {C e dx a b : Addr} {H0 H : Hp} {L : List Tri} {tags : Word} {G : Form} (h : EatN C H0 H e dx a b L tags G) : EatAt C H e tags G := ⟨dx, a, b, h.ins, h.tags, h.form.form⟩
theorem EatN.ext {T : List (Addr × Str)} {C e dx a b : Addr} {H0 H H' : Hp} {L : List Tri} {tags : Word} {G : Form} (h : EatN C H0 H e dx a b L tags G) (x : QB.Ext T H H') : EatN C H0 H' e dx a b L tags G := ⟨x.get h.ins, x.word h.tags, h.form.ext x, h.fe, h.fa⟩

def spInit (T : List (Addr × Str)) (C : Addr) : Sp := fun vs H Q _ => ∃ (x dx a b : Addr) (tags : Word) (F : Form) (H0 : Hp), vs = [.ref x, .ref a, .ref b] ∧ H x = some (.ins C dx []) ∧ WordAt H a tags ∧ FormAt H b F ∧ TagsOk tags ∧ FormOk tags F ∧ Tabs T H ∧ QB.Ext T H0 H ∧ Fresh H0 x ∧
  ∀ (a' b' : Addr) (L : List Tri) (H' : Hp), QB.Ext T H0 H' → Tabs T H' → EatN C H0 H' x dx a' b' L tags (least tags F) → Q .non H'
theorem ok_Eater___init__ (X : TX K mg) (TB : LamX.TabB base mg X.lam_c X.lam_P) : FnOk P w K mg base CX0 5 X.d_Eater___init__.a X.d_Eater___init__.fd ["self", "tags", "standings"] (spInit (Tof X) X.c_Eater) := by
  have nd := sc_Eater___init__.nd
  refine X.d_Eater___init__.F.ok sc_Eater___init__ (fun vs H Q E h => ?_) (fun cdv A outer s H vs Q E hr h => ?_)
  · obtain ⟨x, dx, a, b, tags, F, H0, rfl, _⟩ := h
    rfl
  · obtain ⟨x, dx, a, b, tags, F, H0, rfl, hx, ha, hb, to, fo, tb, e0, fx, k⟩ := h
    refine ⟨_, (pss_cons (ps_expr (pe_call (ok_check_tags X) (hr.mono (by decide)) rfl X.d_check_tags.mg X.d_check_tags.F.kp X.d_check_tags.b .nil pass0 (pa_cons (pv 1) pa_nil))) (pss_cons (ps_expr (pe_call (ok_check_standings X) (hr.mono (by decide)) rfl X.d_check_standings.mg X.d_check_standings.F.kp X.d_check_standings.b .nil pass0 (pa_cons (pv 1) (pa_cons (pv 2) pa_nil)))) (pss_cons (ps_fld (pv 0) (pe_callTy (QB.call_listK K) (by rfl) X.n_list QB.bo_list (pa_cons (pv 1) pa_nil)) rfl) (pss_one (ps_fld (pv 0) (pe_call (ok_least_form X TB) (hr.mono (by decide)) rfl X.d_least_form.mg X.d_least_form.F.kp X.d_least_form.b .nil pass0 (pa_cons (pv 1) (pa_cons (pv 2) pa_nil))) rfl))))), ?_⟩
    try dsimp only [Cx.nox, Cx.wish, cxOf]
    have htl := to.len
    refine ⟨_, rfl, a, tags, rfl, ha, to, fun H1 s1 => ?_⟩
    refine ⟨_, rfl, _, rfl, a, b, tags, F, rfl, Same.word s1 ha, Same.form s1 hb, fo, by omega, fun H2 s2 => ?_⟩
    have s12 := s1.trans s2
    refine ⟨_, rfl, ?_⟩
    dsimp only [tNil]
    refine ⟨_, _, rfl, .inl (SqL.of (Same.word s12 ha)), fun l hl => ?_⟩
    have sA : Same H (upd H2 l (.lst (vS tags))) := Same.new s12 hl
    have hxA := sA _ _ hx
    refine ⟨_, rfl, x, _, _, _, rfl, hxA, X.cl_Eater, X.na_Eater__tags, by decide, ?_⟩
    have haA : WordAt (upd H2 l (.lst (vS tags))) l tags := upd_same
    generalize upd H2 l (.lst (vS tags)) = HA at sA hxA haA ⊢
    have eB := (e0.trans (.of sA)).mut (o := .ins X.c_Eater dx [("_tags", .ref l)]) fx hxA
    have tB := tabs_mut (o := .ins X.c_Eater dx [("_tags", .ref l)]) (tb.ext sA) hxA True.intro
    refine ⟨_, rfl, _, rfl, a, b, tags, F, rfl, wordIns (Same.word sA ha) hxA, formIns (Same.form sA hb) hxA, fo.good, fo.words to, by omega, tB, fun p L H3 e3 t3 n3 => ?_⟩
    have hx3 := e3.get (p := x) upd_same
    refine ⟨_, rfl, x, _, _, _, rfl, hx3, X.cl_Eater, X.na_Eater__standings, by show (1 : Nat) < 1000; omega, ?_⟩
    exact k l p L _ ((eB.trans e3).mut fx hx3) (tabs_mut t3 hx3 True.intro) ⟨upd_same, wordIns (e3.word (wordIns haA hxA)) hx3, newIns (n3.old eB) hx3, fx, e0.fresh (.of (s12.free hl))⟩

def spLenE (C : Addr) : Sp := fun vs H Q _ => ∃ (e : Addr) (tags : Word) (G : Form), vs = [.ref e] ∧ EatAt C H e tags G ∧ Q (.int (G.length : Int)) H
theorem ok_Eater___len__ (X : TX K mg) : FnOk P w K mg base CX0 1 X.d_Eater___len__.a X.d_Eater___len__.fd ["self"] (spLenE X.c_Eater) := by
  have nd := sc_Eater___len__.nd
  refine X.d_Eater___len__.F.ok sc_Eater___len__ (fun vs H Q E h => ?_) (fun cdv A outer s H vs Q E hr h => ?_)
  · obtain ⟨e, tags, G, rfl, _⟩ := h
    rfl
  · obtain ⟨e, tags, G, rfl, ⟨dx, a, b, he, ha, hb⟩, k⟩ := h
    refine ⟨_, (pss_one (ps_ret (pe_callB (QB.call_lenK K) (by rfl) X.n_len PySem.boot_len (pa_cons (QB.pe_fldK K (pv 0) rfl) pa_nil)))), ?_⟩
    try dsimp only [Cx.nox, Cx.wish, cxOf]
    obtain ⟨vs, h1, h2⟩ := FormAt.lst hb
    refine ⟨_, rfl, e, _, _, _, _, rfl, he, X.cl_Eater, X.na_Eater__standings, rfl, ?_⟩
    dsimp only [tNil]
    refine ⟨_, _, rfl, .inl (SqL.of h1), ?_⟩
    rw [h2]
    exact k
def spTagsE (C : Addr) : Sp := fun vs H Q _ => ∃ (e : Addr) (tags : Word) (G : Form), vs = [.ref e] ∧ EatAt C H e tags G ∧ ∀ p, H p = none → Q (.ref p) (upd H p (.lst (vS tags)))
theorem ok_Eater_tags (X : TX K mg) : FnOk P w K mg base CX0 1 X.d_Eater_tags.a X.d_Eater_tags.fd ["self"] (spTagsE X.c_Eater) := by
  have nd := sc_Eater_tags.nd
  refine X.d_Eater_tags.F.ok sc_Eater_tags (fun vs H Q E h => ?_) (fun cdv A outer s H vs Q E hr h => ?_)
  · obtain ⟨e, tags, G, rfl, _⟩ := h
    rfl
  · obtain ⟨e, tags, G, rfl, ⟨dx, a, b, he, ha, hb⟩, k⟩ := h
    refine ⟨_, (pss_one (ps_ret (pe_callTy (QB.call_listK K) (by rfl) X.n_list QB.bo_list (pa_cons (QB.pe_fldK K (pv 0) rfl) pa_nil)))), ?_⟩
    try dsimp only [Cx.nox, Cx.wish, cxOf]
    refine ⟨_, rfl, e, _, _, _, _, rfl, he, X.cl_Eater, X.na_Eater__tags, rfl, ?_⟩
    dsimp only [tNil]
    exact ⟨_, _, rfl, .inl (SqL.of ha), k⟩
def spStandingsE (C : Addr) : Sp := fun vs H Q _ => ∃ (e : Addr) (tags : Word) (G : Form), vs = [.ref e] ∧ EatAt C H e tags G ∧ G.length ≤ 10000 ∧ ∀ (p : Addr) (L : List Tri) (H' : Hp), Same H H' → NewF H H' p L G → Q (.ref p) H'
theorem ok_Eater_standings (X : TX K mg) : FnOk P w K mg base CX0 2 X.d_Eater_standings.a X.d_Eater_standings.fd ["self"] (spStandingsE X.c_Eater) := by
  have nd := sc_Eater_standings.nd
  refine X.d_Eater_standings.F.ok sc_Eater_standings (fun vs H Q E h => ?_) (fun cdv A outer s H vs Q E hr h => ?_)
  · obtain ⟨e, tags, G, rfl, _⟩ := h
    rfl
  · obtain ⟨e, tags, G, rfl, ⟨dx, a, b, he, ha, hb⟩, hz, k⟩ := h
    refine ⟨_, (pss_one (ps_ret (pe_call (ok_copied X) (hr.mono (by decide)) rfl X.d_copied.mg X.d_copied.F.kp X.d_copied.b .nil pass0 (pa_cons (QB.pe_fldK K (pv 0) rfl) pa_nil)))), ?_⟩
    try dsimp only [Cx.nox, Cx.wish, cxOf]
    refine ⟨_, rfl, e, _, _, _, _, rfl, he, X.cl_Eater, X.na_Eater__standings, rfl, ?_⟩
    dsimp only [tNil]
    exact ⟨b, G, rfl, hb, hz, k⟩
def spOnE (C : Addr) : Sp := fun vs H Q _ => ∃ (e c : Addr) (tags : Word) (G : Form) (wd : Word), vs = [.ref e, .ref c] ∧ EatAt C H e tags G ∧ WordAt H c wd ∧ Good tags G ∧ (∀ t ∈ wd, t ∈ tags) ∧ wd.length ≤ 200 ∧ (∀ s ∈ G, s.1.length ≤ 10000) ∧
  ∀ (p : Addr) (H' : Hp), Same H H' → H p = none → H' p = some (.lst (vS (make tags G wd))) → Q (.ref p) H'
theorem ok_Eater_on (X : TX K mg) : FnOk P w K mg base CX0 4 X.d_Eater_on.a X.d_Eater_on.fd ["self", "subject"] (spOnE X.c_Eater) := by
  have nd := sc_Eater_on.nd
  refine X.d_Eater_on.F.ok sc_Eater_on (fun vs H Q E h => ?_) (fun cdv A outer s H vs Q E hr h => ?_)
  · obtain ⟨e, c, tags, G, wd, rfl, _⟩ := h
    rfl
  · obtain ⟨e, c, tags, G, wd, rfl, ⟨dx, a, b, he, ha, hb⟩, hw, g, hin, hz, hz2, k⟩ := h
    refine ⟨_, (pss_cons (ps_expr (pe_call (ok_check_word X) (hr.mono (by decide)) rfl X.d_check_word.mg X.d_check_word.F.kp X.d_check_word.b .nil pass0 (pa_cons (QB.pe_fldK K (pv 0) rfl) (pa_cons (pv 1) (pa_cons (pe_gc rfl X.c_LONGEST_SUBJECT) pa_nil))))) (pss_one (ps_ret (pe_call (ok_made X) (hr.mono (by decide)) rfl X.d_made.mg X.d_made.F.kp X.d_made.b .nil pass0 (pa_cons (QB.pe_fldK K (pv 0) rfl) (pa_cons (QB.pe_fldK K (pv 0) rfl) (pa_cons (pv 1) pa_nil))))))), ?_⟩
    try dsimp only [Cx.nox, Cx.wish, cxOf]
    refine ⟨_, rfl, ⟨e, _, _, _, _, rfl, he, X.cl_Eater, X.na_Eater__tags, rfl, ?_⟩⟩
    refine ⟨_, rfl, ?_⟩
    refine ⟨a, c, tags, wd, 200, rfl, ha, hw, by omega, hin, fun H1 s1 => ?_⟩
    refine ⟨_, rfl, e, _, _, _, _, rfl, s1 _ _ he, X.cl_Eater, X.na_Eater__tags, rfl, ?_⟩
    refine ⟨_, rfl, e, _, _, _, _, rfl, s1 _ _ he, X.cl_Eater, X.na_Eater__standings, rfl, ?_⟩
    refine ⟨_, rfl, ?_⟩
    exact ⟨a, b, c, tags, G, wd, rfl, Same.word s1 ha, Same.form s1 hb, Same.word s1 hw, g, hin, by omega, hz2, fun p H2 s2 n2 h2 => k p H2 (s1.trans s2) (s1.free n2) h2⟩
def spEqE (K : PySem.W.Frag) (C : Addr) : Sp := fun vs H Q _ => ∃ (e : Addr) (y : V) (tags : Word) (G : Form), vs = [.ref e, y] ∧ EatAt C H e tags G ∧ OkWord tags ∧ OkForm G ∧
  ((∃ (f : Addr) (tags2 : Word) (G2 : Form), y = .ref f ∧ EatAt C H f tags2 G2 ∧ OkWord tags2 ∧ OkForm G2 ∧ Q (.bl (decide (tags = tags2) && decide (G = G2))) H) ∨
   (∃ t, TyOf K H y t ∧ PySem.W.kitOne K t (.ref C) = some false ∧ Q (.bl false) H))
theorem ok_Eater___eq__ (X : TX K mg) : FnOk P w K mg base CX0 1 X.d_Eater___eq__.a X.d_Eater___eq__.fd ["self", "other"] (spEqE K X.c_Eater) := by
  have nd := sc_Eater___eq__.nd
  refine X.d_Eater___eq__.F.ok sc_Eater___eq__ (fun vs H Q E h => ?_) (fun cdv A outer s H vs Q E hr h => ?_)
  · obtain ⟨e, y, tags, G, rfl, _⟩ := h
    rfl
  · obtain ⟨e, y, tags, G, rfl, ⟨dx, a, b, he, ha, hb⟩, ot, oG, k⟩ := h
    refine ⟨_, (pss_cons (ps_if (pt_not (pt_val (pe_callB (QB.call_isiK K) (by rfl) X.n_isinstance QB.bo_isinstance (pa_cons (pv 1) (pa_cons (pe_glob (v := .ref X.c_Eater) rfl X.m_Eater rfl) pa_nil))))) (pss_one (ps_ret pe_bl)) pss_nil) (pss_one (ps_ret (pe_and (pe_cmpR (QB.op_eqDK K hr.units) (QB.pe_fldK K (pv 0) rfl) (QB.pe_fldK K (pv 1) rfl) (nomark _)) (pe_one (pe_cmpR (QB.op_eqDK K hr.units) (QB.pe_fldK K (pv 0) rfl) (QB.pe_fldK K (pv 1) rfl) (nomark _))))))), ?_⟩
    try dsimp only [Cx.nox, Cx.wish, cxOf]
    rcases k with ⟨f, tags2, G2, rfl, ⟨dx2, a2, b2, hf, ha2, hb2⟩, ot2, oG2, q⟩ | ⟨t, ht, hk, q⟩
    · refine ⟨_, rfl, ?_⟩
      dsimp only [tNil, tCons]
      refine ⟨_, _, _, _, true, rfl, .own _, .base (X.oc_Eater.ty X.cl_Eater hf), QO.OwnC.self, true, rfl, ?_⟩
      refine iteF ?_
      refine ⟨_, rfl, e, _, _, _, _, rfl, he, X.cl_Eater, X.na_Eater__tags, rfl, ?_⟩
      refine ⟨_, rfl, f, _, _, _, _, rfl, hf, X.cl_Eater, X.na_Eater__tags, rfl, ?_⟩
      refine eq_wd ha ha2 ot ot2 ?_
      refine ⟨_, rfl, ?_⟩
      by_cases z : tags = tags2
      · rw [decide_eq_true z] at q ⊢
        refine iteT ?_
        refine ⟨_, rfl, e, _, _, _, _, rfl, he, X.cl_Eater, X.na_Eater__standings, rfl, ?_⟩
        refine ⟨_, rfl, f, _, _, _, _, rfl, hf, X.cl_Eater, X.na_Eater__standings, rfl, ?_⟩
        exact eq_form hb hb2 oG oG2 q
      · rw [decide_eq_false z] at q ⊢
        exact iteF q
    · refine ⟨_, rfl, ?_⟩
      dsimp only [tNil, tCons]
      refine ⟨_, _, _, _, false, rfl, .own _, .base ht, hk, false, rfl, ?_⟩
      exact iteT q
end
end Law
end

section
set_option Elab.async false
set_option linter.all false
set_option maxRecDepth 100000
set_option maxHeartbeats 4000000
namespace Law
open PySem PySem.Spec PyProof.Rows L2 LamX QB QM
/-! any values handed to the checks -/
def isS : V → Bool
  | .str _ => true
  | _ => false
def valTag (tags : List Str) : V → Bool
  | .str t => decide (t ∈ tags)
  | _ => false
/-- a value of a known kind: whether it is a text -/
def Kd (K : PySem.W.Frag) (H : Hp) (x : V) : Prop := ∃ ty, TyX K H x ty ∧ PySem.W.kitOne K ty (.type "str") = some (isS x)
theorem tySame {K : PySem.W.Frag} {H H' : Hp} {x : V} {ty : Value} (h : TyX K H x ty) (s : Same H H') : TyX K H' x ty := by
  cases h with
  | base b =>
    refine .base ?_
    cases b with
    | non => exact .non
    | bl y => exact .bl y
    | int i => exact .int i
    | str y => exact .str y
    | flt y => exact .flt y
    | lst e => exact .lst (s _ _ e)
    | frz e => exact .frz (s _ _ e)
    | tup e => exact .tup (s _ _ e)
    | dK e => exact .dK (s _ _ e)
    | dT e => exact .dT (s _ _ e)
    | ins e cl ha hn htk hm => exact .ins (s _ _ e) cl ha hn htk hm
  | byt b => exact .byt b
  | set e => exact .set (s _ _ e)
  | kList e c => exact .kList e c
  | kTuple e c => exact .kTuple e c
  | kDict e c => exact .kDict e c
  | fTuple e => exact .fTuple (s _ _ e)
  | fDict e => exact .fDict (s _ _ e)
theorem Kd.same {K : PySem.W.Frag} {H H' : Hp} {x : V} (h : Kd K H x) (s : Same H H') : Kd K H' x := by
  obtain ⟨ty, h1, h2⟩ := h
  exact ⟨ty, tySame h1 s, h2⟩
section
variable {P : Program} {w : World} {K : PySem.W.Frag} {mg : Str → Option Value} {base : Heap}
theorem Kd.str {H : Hp} (t : Str) : Kd K H (.str t) := ⟨_, .base (.str t), kit_str_str⟩
theorem Kd.non {H : Hp} : Kd K H .non := ⟨_, .base .non, kit_ty (show _ = some false by decide +kernel)⟩
theorem Kd.int {H : Hp} (i : Int) : Kd K H (.int i) := ⟨_, .base (.int i), kit_ty (show _ = some false by decide +kernel)⟩
theorem Kd.bl {H : Hp} (b : Bool) : Kd K H (.bl b) := ⟨_, .base (.bl b), kit_ty (show _ = some false by decide +kernel)⟩
theorem Kd.lst {H : Hp} {a : Addr} {xs : List V} (h : H a = some (.lst xs)) : Kd K H (.ref a) := ⟨_, .base (.lst h), kit_ty (show _ = some false by decide +kernel)⟩
theorem Kd.tup {H : Hp} {a : Addr} {xs : List V} (h : H a = some (.tup xs)) : Kd K H (.ref a) := ⟨_, .base (.tup h), kit_ty (show _ = some false by decide +kernel)⟩
theorem Kd.dK {H : Hp} {a : Addr} {kvs : List (Key × V)} (h : H a = some (.dK kvs)) : Kd K H (.ref a) := ⟨_, .base (.dK h), kit_ty (show _ = some false by decide +kernel)⟩
def spIsTagA (K : PySem.W.Frag) : Sp := fun vs H Q _ => ∃ (a : Addr) (tags : List Str) (x : V), vs = [.ref a, x] ∧ WordAt H a tags ∧ Kd K H x ∧ Q (.bl (valTag tags x)) H
theorem ok_is_tag_any (X : TX K mg) : FnOk P w K mg base CX0 1 X.d_is_tag.a X.d_is_tag.fd ["tags", "x"] (spIsTagA K) := by
  have nd := sc_is_tag.nd
  refine X.d_is_tag.F.ok sc_is_tag (fun vs H Q E h => ?_) (fun cdv A outer s H vs Q E hr h => ?_)
  · obtain ⟨a, tags, x, rfl, _⟩ := h
    rfl
  · obtain ⟨a, tags, x, rfl, ha, ⟨ty, hty, hk⟩, k⟩ := h
    refine ⟨_, (pss_one (ps_ret (pe_and (pe_callB (QB.call_isiK K) (by rfl) X.n_isinstance QB.bo_isinstance (pa_cons (pv 1) (pa_cons (pe_bltn (v := .ty "str") (by rfl) X.n_str QB.bo_str rfl) pa_nil))) (pe_one (pe_cmpR (QB.op_inK K) (pv 1) (pv 0) rfl))))), ?_⟩
    try dsimp only [Cx.nox, Cx.wish, cxOf]
    refine ⟨_, rfl, _, _, _, _, isS x, rfl, .ty "str", hty, hk, isS x, rfl, ?_⟩
    cases x with
    | str t =>
      refine iteT ?_
      refine ⟨_, rfl, _, rfl, a, vS tags, rfl, .inl (SqL.of ha), rfl, vS_flat, ?_⟩
      show Q (.bl (if false = true then !inV (.str t) (vS tags) else inV (.str t) (vS tags))) H
      rw [if_neg Bool.false_ne_true, inV_word]
      exact k
    | _ => exact iteF k
def spIsSubjectA (K : PySem.W.Frag) : Sp := fun vs H Q _ => ∃ (a : Addr) (tags : List Str) (x : V), vs = [.ref a, x] ∧ WordAt H a tags ∧
  ((∃ ty, TyX K H x ty ∧ PySem.W.kitOne K ty (.type "list") = some false ∧ Q (.bl false) H) ∨
   (∃ (b : Addr) (xs : List V), x = .ref b ∧ H b = some (.lst xs) ∧ xs.length ≤ 100000 ∧ (∀ y ∈ xs, Kd K H y) ∧ ∀ H', Same H H' → Q (.bl (xs.all (valTag tags))) H'))
theorem ok_is_subject_any (X : TX K mg) : FnOk P w K mg base CX0 2 X.d_is_subject.a X.d_is_subject.fd ["tags", "x"] (spIsSubjectA K) := by
  have nd := sc_is_subject.nd
  refine X.d_is_subject.F.ok sc_is_subject (fun vs H Q E h => ?_) (fun cdv A outer s H vs Q E hr h => ?_)
  · obtain ⟨a, tags, x, rfl, _⟩ := h
    rfl
  · obtain ⟨a, tags, x, rfl, ha, h⟩ := h
    refine ⟨_, ((pss_one (ps_ret (pe_and (pe_callB (QB.call_isiK K) (by rfl) X.n_isinstance QB.bo_isinstance (pa_cons (pv 1) (pa_cons (pe_bltn (v := .ty "list") (by rfl) X.n_list QB.bo_list rfl) pa_nil))) (pe_one (pe_callB (QB.cr_allK K rfl) (by rfl) X.n_all QB.bo_all (pa_cons (pe_lc (own := [("tag", 2)]) (g := gName 2) (tt := tYes) rfl nd (QB.pi_listK K (pv 1)) (blkOk_by (N := ["tags", "x", "tag"]) (sc := defScope s_is_subject) (by decide +kernel)) (fun _ _ _ _ _ => pg_name (i := 2) nd rfl (Or.inl rfl)) (fun _ _ _ _ _ => pts_nil) (fun _ _ _ _ _ => (pe_call (ok_is_tag_any X) (hr.mono (by decide)) rfl X.d_is_tag.mg X.d_is_tag.F.kp X.d_is_tag.b .nil pass0 (pa_cons (pv 0) (pa_cons (pv 2) pa_nil))))) pa_nil))))))), ?_⟩
    try dsimp only [Cx.nox, Cx.wish, cxOf]
    rcases h with ⟨ty, hty, hk, k⟩ | ⟨b, xs, rfl, hb, hz, hkd, k⟩
    · refine ⟨_, rfl, _, _, _, _, false, rfl, .ty "list", hty, hk, false, rfl, ?_⟩
      exact iteF k
    · refine ⟨_, rfl, _, _, _, _, true, rfl, .ty "list", .base (.lst hb), kit_list_list, true, rfl, ?_⟩
      refine iteT ?_
      refine ⟨_, rfl, _, rfl, ⟨_, SqL.of hb⟩, fun D hD => ?_⟩
      refine lc_map (walk_list (K := K) (a := b) (xs := xs)) hD hz (fun H1 s1 => SqL.of (s1 _ _ hb)) (fun i => .bl (((xs[i]?).map (valTag tags)).getD false)) ?_ ?_
      · rintro i x H1 H2 kk hi s1 ⟨rfl, hy⟩ hk
        refine ⟨rfl, _, rfl, _, rfl, a, tags, x, rfl, Same.word s1 ha, Kd.same (hkd x (List.mem_of_getElem? hy)) s1, ?_⟩
        have e := hk _ (Same.refl H2)
        rw [hy] at e
        exact e
      · intro H1 s1 e
        rw [range_map_get _ xs (fun t => .bl (valTag tags t)) (fun i x hx => by rw [hx]; rfl)] at e
        refine ⟨_, xs.map (valTag tags), rfl, SqL.of (by rw [e, List.map_map]; rfl), ?_⟩
        have e2 := k H1 s1
        rw [List.all_map]
        exact e2
end
end Law
end

section
set_option Elab.async false
set_option linter.all false
set_option maxRecDepth 100000
set_option maxHeartbeats 4000000
namespace Law
open PySem PySem.Spec PyProof.Rows L2 LamX QB QM
section
variable {P : Program} {w : World} {K : PySem.W.Frag} {mg : Str → Option Value} {base : Heap}
def stopsOf (tags : List Str) (ws : Ways) : Word := ((tags.zip ws).filter fun z => z.2.isNone).map fun z => z.1
def madeAt (tags : List Str) (s : Std) (wd : Word) : Bool := decide (wd.take s.1.length = s.1) && (decide (wd.length = s.1.length) || match wd[s.1.length]? with
  | some t => decide (t ∈ stopsOf tags s.2)
  | none => false)
def spMadeAt : Sp := fun vs H Q _ => ∃ (a t c p1 p2 : Addr) (tags : List Str) (s : Std) (wd : Word), vs = [.ref a, .ref t, .ref c] ∧ WordAt H a tags ∧ H t = some (.tup [.ref p1, .ref p2]) ∧ WordAt H p1 s.1 ∧ WaysAt H p2 s.2 ∧ WordAt H c wd ∧ s.2.length = tags.length ∧ tags.length ≤ 100 ∧ OkWord s.1 ∧ OkWord wd ∧ wd.length ≤ 100000 ∧
  ∀ H', Same H H' → Q (.bl (madeAt tags s wd)) H'
theorem ok_is_made_at (X : TX K mg) : FnOk P w K mg base CX0 1 X.d_is_made_at.a X.d_is_made_at.fd ["tags", "standing", "subject"] spMadeAt := by
  have nd := sc_is_made_at.nd
  refine X.d_is_made_at.F.ok sc_is_made_at (fun vs H Q E h => ?_) (fun cdv A outer s H vs Q E hr h => ?_)
  · obtain ⟨a, t, c, p1, p2, tags, s, wd, rfl, _⟩ := h
    rfl
  · obtain ⟨a, t, c, p1, p2, tags, s, wd, rfl, ha, ht, h1, h2, hc, hl, htl, ok1, ok2, hz, k⟩ := h
    refine ⟨_, (pss_cons (ps_asg (pv 1) (pg_tup (by rfl) (pgs_cons (pg_name (i := 3) nd rfl (Or.inl rfl)) (pgs_cons (pg_name (i := 4) nd rfl (Or.inl rfl)) (pgs_nil))))) (pss_cons (ps_if (pt_cmpR (QB.op_neDK K hr.units) (pe_slice (QB.sl_listK K) (pv 2) po_none (po_some (pe_callB (QB.call_lenK K) (by rfl) X.n_len PySem.boot_len (pa_cons (pv 3) pa_nil)))) (pv 3) (nomark _)) (pss_one (ps_ret pe_bl)) pss_nil) (pss_cons (ps_setLc (i := 5) (own := [("tag", 6), ("way", 7)]) (g := gTup K 2 (gCons (gName 6) (gCons (gName 7) (gNil)))) rfl nd rfl rfl (sw_true rfl rfl rfl (by decide +kernel)) (QB.pi_zipK K (by rfl) X.n_zip (pa_cons (pv 0) (pa_cons (pv 4) pa_nil))) (blkOk_by (N := ["tags", "standing", "subject", "word", "ways", "stops", "tag", "way"]) (sc := defScope s_is_made_at) (by decide +kernel)) (fun _ _ _ _ _ => pg_tup (by rfl) (pgs_cons (pg_name (i := 6) nd rfl (Or.inl rfl)) (pgs_cons (pg_name (i := 7) nd rfl (Or.inl rfl)) (pgs_nil)))) (fun _ _ _ _ _ => pts_one (pt_cmpR op_isN (pv 7) pe_non (nomark _))) (fun _ _ _ _ _ => (pv 6))) (pss_one (ps_ret (pe_or (pe_cmpR op_eq (pe_callB (QB.call_lenK K) (by rfl) X.n_len PySem.boot_len (pa_cons (pv 2) pa_nil)) (pe_callB (QB.call_lenK K) (by rfl) X.n_len PySem.boot_len (pa_cons (pv 3) pa_nil)) (nomark _)) (pe_one (pe_cmpR (QB.op_inK K) (pe_ix (QB.ix_listK K) (pv 2) (pe_callB (QB.call_lenK K) (by rfl) X.n_len PySem.boot_len (pa_cons (pv 3) pa_nil)) (fun _ _ => rfl)) (pv 5) rfl)))))))), ?_⟩
    try dsimp only [Cx.nox, Cx.wish, cxOf]
    refine ⟨_, rfl, t, _, rfl, SqT.of ht, rfl, _, _, rfl, _, _, rfl, rfl, ?_⟩
    refine ⟨_, rfl, _, rfl, ?_⟩
    dsimp only [tNil]
    refine ⟨_, _, rfl, .inl (SqL.of h1), _, rfl, c, _, rfl, SqL.of hc, fun q1 hq1 => ?_⟩
    rw [vS_len, cut_take, vS_take]
    have s1 := same_new (o := .lst (vS (wd.take s.1.length))) hq1
    have w1 : WordAt (upd H q1 (.lst (vS (wd.take s.1.length)))) q1 (wd.take s.1.length) := upd_same
    generalize upd H q1 (.lst (vS (wd.take s.1.length))) = H1 at s1 w1 ⊢
    refine ⟨_, rfl, ne_wd w1 (Same.word s1 h1) (fun t ht => ok2 t (List.mem_of_mem_take ht)) ok1 ?_⟩
    refine ⟨_, rfl, ?_⟩
    by_cases he : wd.take s.1.length = s.1
    · rw [decide_eq_true he]
      refine iteF ?_
      have le : s.1.length ≤ wd.length := by
        have := congrArg List.length he
        rw [List.length_take] at this
        omega
      have ha1 := Same.word s1 ha
      have h21 := Same.ways s1 h2
      have hc1 := Same.word s1 hc
      have h11 := Same.word s1 h1
      have hzl : (tags.zip s.2).length = tags.length := by rw [List.length_zip, hl, Nat.min_self]
      refine ⟨_, rfl, _, rfl, a, p2, _, _, rfl, SqL.of ha1, SqL.of h21, fun D hD => ?_⟩
      refine lc_filter (walk_zip (K := K) (a := a) (b := p2) (xs := vS tags) (ys := vWs s.2) (n := tags.length) (by rw [vS_len, vWs_len, hl, Nat.min_self])) hD (by omega) (fun H' s' => ⟨SqL.of (Same.word s' ha1), SqL.of (Same.ways s' h21)⟩)
        (fun i => (((tags.zip s.2)[i]?).map fun z => V.str z.1).getD .non) (fun i => (((tags.zip s.2)[i]?).map fun z => z.2.isNone).getD false) ?_ ?_
      · rintro i x H2 H3 kk N hi s2 ⟨tp, x1, x2, rfl, ntp, rfl, e1, e2⟩ hk hN
        have g1 : tags[i]? = some tags[i] := List.getElem?_eq_getElem hi
        have g2 : s.2[i]? = some (s.2[i]'(by omega)) := List.getElem?_eq_getElem (by omega)
        have gz : (tags.zip s.2)[i]? = some (tags[i], s.2[i]'(by omega)) := by
          rw [List.getElem?_zip_eq_some]
          exact ⟨g1, g2⟩
        have e1 : (vS tags)[i]? = some x1 := e1
        have e2 : (vWs s.2)[i]? = some x2 := e2
        rw [vS_get g1] at e1
        rw [vWs_get g2] at e2
        cases e1
        cases e2
        rw [gz] at hk hN
        generalize tags[i] = tg at hk hN
        generalize s.2[i]'(by omega) = wy at hk hN
        have s3 := Same.new (Same.refl H2) (o := .tup [.str tg, vW wy]) ntp
        refine ⟨tp, _, rfl, SqT.of upd_same, rfl, _, _, rfl, _, _, rfl, rfl, rfl, ?_⟩
        refine ⟨_, rfl, rfl, _, rfl, ?_⟩
        rw [vW_is]
        cases wy with
        | none => exact iteT ⟨_, rfl, hk rfl _ s3⟩
        | some m => exact iteF (hN rfl _ s3)
      intro H2 s2 e2
      have w2 : WordAt H2 D (stopsOf tags s.2) := by
        unfold WordAt stopsOf vS
        rw [e2, List.map_map, ← hzl]
        rw [filter_range (fun z : Str × Option Nat => z.2.isNone) (fun z => V.str z.1) _ _ (tags.zip s.2) (fun j z hz => by rw [hz]; exact ⟨rfl, rfl⟩)]
        rfl
      have s12 := s1.trans s2
      refine ⟨_, rfl, ?_⟩
      dsimp only [tNil]
      refine ⟨_, _, rfl, .inl (SqL.of (Same.word s2 hc1)), _, rfl, _, _, rfl, .inl (SqL.of (Same.word s2 h11)), rfl, ?_⟩
      refine ⟨_, rfl, ?_⟩
      rw [vS_len, vS_len]
      have e := k H2 s12
      unfold madeAt at e
      rw [decide_eq_true he, Bool.true_and] at e
      by_cases hle : wd.length = s.1.length
      · rw [decide_eq_true hle, Bool.true_or] at e
        rw [decide_eq_true (congrArg (fun n : Nat => V.int (n : Int)) hle)]
        exact iteT e
      · rw [decide_eq_false hle, Bool.false_or] at e
        have hne : ¬ V.int (wd.length : Int) = V.int (s.1.length : Int) := fun z => hle (by injection z with z; omega)
        rw [decide_eq_false hne]
        refine iteF ?_
        have hlt : s.1.length < wd.length := by omega
        have g3 : wd[s.1.length]? = some wd[s.1.length] := List.getElem?_eq_getElem hlt
        rw [g3] at e
        refine ⟨_, rfl, _, rfl, ?_⟩
        refine ⟨_, _, rfl, .inl (SqL.of (Same.word s2 h11)), c, _, _, _, rfl, rfl, SqL.of (Same.word s2 hc1), by rw [vS_len]; exact atI_nat (vS_get g3), ?_⟩
        refine ⟨_, rfl, D, _, rfl, .inl (SqL.of w2), rfl, vS_flat, ?_⟩
        rw [if_neg Bool.false_ne_true, inV_word]
        exact e
    · rw [decide_eq_false he]
      refine iteT ?_
      have e := k H1 s1
      unfold madeAt at e
      rw [decide_eq_false he] at e
      exact e
end
end Law
end

section
set_option Elab.async false
set_option linter.all false
set_option maxRecDepth 100000
set_option maxHeartbeats 4000000
namespace Law
open PySem PySem.Spec PyProof.Rows L2 LamX QB QM
section
variable {P : Program} {w : World} {K : PySem.W.Frag} {mg : Str → Option Value} {base : Heap}
theorem word_of_tags {tags : Word} : ∀ {xs : List V}, xs.all (valTag tags) = true → ∃ wd : Word, xs = vS wd ∧ ∀ t ∈ wd, t ∈ tags
  | [], _ => ⟨[], rfl, fun _ h => nomatch h⟩
  | x :: xs, h => by
    rw [List.all_cons, Bool.and_eq_true] at h
    obtain ⟨wd, e, hin⟩ := word_of_tags h.2
    cases x with
    | str t =>
      have ht : t ∈ tags := of_decide_eq_true h.1
      exact ⟨t :: wd, by rw [e]; rfl, fun s hs => by
        rcases List.mem_cons.mp hs with r | r
        · rw [r]
          exact ht
        · exact hin s r⟩
    | _ => cases h.1
/-- made of some word, as the program tells it -/
def inForm (tags : Word) (G : Form) (wd : Word) : Bool := G.any fun s => madeAt tags s wd
def spInE (K : PySem.W.Frag) (C : Addr) : Sp := fun vs H Q _ => ∃ (e : Addr) (x : V) (tags : Word) (G : Form), vs = [.ref e, x] ∧ EatAt C H e tags G ∧ OkWord tags ∧ OkForm G ∧ Good tags G ∧ tags.length ≤ 100 ∧
  ((∃ ty, TyX K H x ty ∧ PySem.W.kitOne K ty (.type "list") = some false ∧ Q (.bl false) H) ∨
   (∃ (b : Addr) (xs : List V), x = .ref b ∧ H b = some (.lst xs) ∧ xs.length ≤ 100000 ∧ (∀ y ∈ xs, Kd K H y) ∧
     (xs.all (valTag tags) = false → ∀ H', Same H H' → Q (.bl false) H') ∧
     (∀ wd : Word, xs = vS wd → (∀ t ∈ wd, t ∈ tags) → ∀ H', Same H H' → Q (.bl (inForm tags G wd)) H')))
theorem ok_Eater___contains__ (X : TX K mg) : FnOk P w K mg base CX0 3 X.d_Eater___contains__.a X.d_Eater___contains__.fd ["self", "x"] (spInE K X.c_Eater) := by
  have nd := sc_Eater___contains__.nd
  refine X.d_Eater___contains__.F.ok sc_Eater___contains__ (fun vs H Q E h => ?_) (fun cdv A outer s H vs Q E hr h => ?_)
  · obtain ⟨e, x, tags, G, rfl, _⟩ := h
    rfl
  · obtain ⟨e, x, tags, G, rfl, ⟨dx, a0, b0, g1, g2, g3⟩, okt, okG, gG, htl, h⟩ := h
    refine ⟨_, ((pss_cons (ps_if (pt_not (pt_val (pe_call (ok_is_subject_any X) (hr.mono (by decide)) rfl X.d_is_subject.mg X.d_is_subject.F.kp X.d_is_subject.b .nil pass0 (pa_cons (QB.pe_fldK K (pv 0) rfl) (pa_cons (pv 1) pa_nil))))) (pss_one (ps_ret pe_bl)) pss_nil) (pss_one (ps_ret (pe_callB (QB.cr_anyK K rfl) (by rfl) X.n_any QB.bo_any (pa_cons (pe_lc (own := [("standing", 2)]) (g := gName 2) (tt := tYes) rfl nd (QB.pi_listK K (QB.pe_fldK K (pv 0) rfl)) (blkOk_by (N := ["self", "x", "standing"]) (sc := defScope s_Eater___contains__) (by decide +kernel)) (fun _ _ _ _ _ => pg_name (i := 2) nd rfl (Or.inl rfl)) (fun _ _ _ _ _ => pts_nil) (fun _ _ _ _ _ => (pe_call (ok_is_made_at X) (hr.mono (by decide)) rfl X.d_is_made_at.mg X.d_is_made_at.F.kp X.d_is_made_at.b .nil pass0 (pa_cons (QB.pe_fldK K (pv 0) rfl) (pa_cons (pv 2) (pa_cons (pv 1) pa_nil)))))) pa_nil)))))), ?_⟩
    try dsimp only [Cx.nox, Cx.wish, cxOf]
    refine ⟨_, rfl, e, _, _, _, _, rfl, g1, X.cl_Eater, X.na_Eater__tags, rfl, _, rfl, ?_⟩
    rcases h with ⟨ty, hty, hk, k⟩ | ⟨b, xs, rfl, hb, hz, hkd, k1, k2⟩
    · refine ⟨a0, tags, x, rfl, g2, .inl ⟨ty, hty, hk, ?_⟩⟩
      refine ⟨_, rfl, ?_⟩
      exact iteT k
    · refine ⟨a0, tags, .ref b, rfl, g2, .inr ⟨b, xs, rfl, hb, hz, hkd, fun H1 s1 => ?_⟩⟩
      refine ⟨_, rfl, ?_⟩
      cases hall : xs.all (valTag tags) with
      | false => exact iteT (k1 hall H1 s1)
      | true =>
        obtain ⟨wd, rfl, hin⟩ := word_of_tags hall
        refine iteF ?_
        have h31 := Same.form s1 g3
        obtain ⟨vs, hv, hvl⟩ := FormAt.lst h31
        have hGs := gG.small
        refine ⟨_, rfl, e, _, _, _, _, rfl, s1 _ _ g1, X.cl_Eater, X.na_Eater__standings, rfl, b0, rfl, ⟨_, SqL.of hv⟩, fun D hD => ?_⟩
        refine lc_map (walk_listF (K := K) (p := b0) (F := G)) hD (by omega) (fun H' s' => Same.form s' h31) (fun i => .bl (((G[i]?).map fun s => madeAt tags s wd).getD false)) ?_ ?_
        · rintro i x H2 H3 kk hi s2 ⟨s, t, p1, p2, hs, rfl, rfl, q1, q2, q3⟩ hk
          have s12 := s1.trans s2
          refine ⟨rfl, _, rfl, e, _, _, _, _, rfl, s12 _ _ g1, X.cl_Eater, X.na_Eater__tags, rfl, _, rfl, _, rfl, ?_⟩
          refine ⟨a0, t, b, p1, p2, tags, s, wd, rfl, Same.word s12 g2, q1, q2, q3, Same.word s12 hb, gG.ways hs, htl, okG s (mem_of hs), fun t ht => okt t (hin t ht), by rw [vS_len] at hz; exact hz, fun H4 s4 => ?_⟩
          have e4 := hk H4 s4
          rw [hs] at e4
          exact e4
        · intro H2 s2 e2
          rw [range_map_get _ G (fun s => .bl (madeAt tags s wd)) (fun i x hx => by rw [hx]; rfl)] at e2
          dsimp only [tNil]
          refine ⟨_, G.map fun s => madeAt tags s wd, rfl, SqL.of (by rw [e2, List.map_map]; rfl), ?_⟩
          have e3 := k2 wd rfl hin H2 (s1.trans s2)
          unfold inForm at e3
          rw [List.any_map]
          exact e3
end
end Law
end

section
set_option linter.all false
set_option autoImplicit false
/-! Qleast: what a form makes, and that its least form makes the same. -/
namespace QM
open PySem QB
/-- what is made from a standing on -/
def eff (tags : List Str) (F : Form) : Nat → Word → Word
  | k, [] => wordOf F k
  | k, t :: w => match wayAt tags F k t with
    | none => wordOf F k ++ t :: w
    | some b => eff tags F b w
theorem walkFrom_ge (tags : List Str) (F : Form) : ∀ (w : Word) (a k : Nat), k ≤ (walkFrom tags F a k w).2
  | [], _, _ => Nat.le_refl _
  | t :: w, a, k => by
    unfold walkFrom
    cases wayAt tags F a t with
    | none => exact Nat.le_refl _
    | some b => exact Nat.le_trans (Nat.le_succ k) (walkFrom_ge tags F w b (k + 1))
theorem walkFrom_eff (tags : List Str) (F : Form) : ∀ (w : Word) (a k : Nat), wordOf F (walkFrom tags F a k w).1 ++ w.drop ((walkFrom tags F a k w).2 - k) = eff tags F a w
  | [], _, _ => by simp [walkFrom, eff]
  | t :: w, a, k => by
    unfold walkFrom eff
    cases wayAt tags F a t with
    | none => simp
    | some b =>
      have h := walkFrom_ge tags F w b (k + 1)
      have ih := walkFrom_eff tags F w b (k + 1)
      show wordOf F (walkFrom tags F b (k + 1) w).1 ++ (t :: w).drop ((walkFrom tags F b (k + 1) w).2 - k) = eff tags F b w
      rw [← ih, show (walkFrom tags F b (k + 1) w).2 - k = ((walkFrom tags F b (k + 1) w).2 - (k + 1)) + 1 by omega, List.drop_succ_cons]
theorem make_eff (tags : List Str) (F : Form) (w : Word) : make tags F w = eff tags F 0 w := by
  have := walkFrom_eff tags F w 0 0
  rw [Nat.sub_zero] at this
  exact this

theorem wordOf_std {F : Form} {k : Nat} (h : k < F.length) : wordOf F k = (stdOf F k).1 := wordOf_of (stdOf_get h)
theorem wayAt_std {tags : List Str} {F : Form} {k : Nat} {t : Str} (h : k < F.length) : wayAt tags F k t = way tags (stdOf F k) t := wayAt_of (stdOf_get h)
theorem way_mem {tags : List Str} {s : Std} {t : Str} {n : Nat} (h : way tags s t = some n) : some n ∈ s.2 := by
  unfold way at h
  cases e : s.2[ixOf tags t]? with
  | none =>
    rw [e] at h
    cases h
  | some x =>
    rw [e] at h
    have h : x = some n := h
    rw [← h]
    exact List.mem_of_getElem? e
theorem Good.std_to {tags : List Str} {F : Form} (g : Good tags F) {k n : Nat} (hk : k < F.length) (h : some n ∈ (stdOf F k).2) : n < F.length := g.to _ (mem_of (stdOf_get hk)) n h
theorem Good.std_len {tags : List Str} {F : Form} (g : Good tags F) {k : Nat} (hk : k < F.length) : (stdOf F k).2.length = tags.length := g.len _ (mem_of (stdOf_get hk))

/-! ### without needless ways -/
theorem Pruned.std {tags : List Str} {F : Form} {st : Form × List Bool} (p : Pruned tags F st) {k : Nat} (hk : k < F.length) : (stdOf st.1 k).1 = (stdOf F k).1 ∧ (stdOf st.1 k).2.length = (stdOf F k).2.length ∧ ∀ n, some n ∈ (stdOf st.1 k).2 → some n ∈ (stdOf F k).2 :=
  p.word k _ (stdOf_get (by rw [p.len]; exact hk))
theorem way_prune {tags : List Str} {F : Form} {S : List Bool} {s : Std} {t : Str} (hl : s.2.length = tags.length) (ht : t ∈ tags) : way tags (pruneStd tags F S s) t = pruneWay F S s.1 t (way tags s t) := by
  have hlt : tags.idxOf t < tags.length := List.idxOf_lt_length_of_mem ht
  have e1 : tags[tags.idxOf t]? = some t := by rw [List.getElem?_eq_getElem hlt, List.getElem_idxOf]
  have e2 : s.2[tags.idxOf t]? = some (s.2[tags.idxOf t]'(by omega)) := List.getElem?_eq_getElem (by omega)
  have e3 := pruneWays_get (F := F) (S := S) e1 e2
  unfold way ixOf
  show ((pruneWays tags F S s)[tags.idxOf t]?).join = pruneWay F S s.1 t (s.2[tags.idxOf t]?).join
  rw [e3, e2]
  rfl
structure PInv (tags : List Str) (F : Form) (st : Form × List Bool) : Prop where
  p : Pruned tags F st
  same : ∀ (w : Word) (k : Nat), k < F.length → (∀ t ∈ w, t ∈ tags) → eff tags st.1 k w = eff tags F k w
  set : ∀ k, k < F.length → st.2.getD k false = true → ∀ w : Word, (∀ t ∈ w, t ∈ tags) → eff tags F k w = wordOf F k ++ w
theorem PInv.start {tags : List Str} {F : Form} : PInv tags F (F, List.replicate F.length false) :=
  ⟨Pruned.start tags F, fun _ _ _ _ => rfl, fun k hk h => by
    have h : (List.replicate F.length false).getD k false = true := h
    rw [List.getD_eq_getElem?_getD, List.getElem?_replicate, if_pos hk] at h
    cases h⟩
theorem eff_cons {tags : List Str} {F : Form} {k : Nat} {t : Str} {w : Word} : eff tags F k (t :: w) = match wayAt tags F k t with
    | none => wordOf F k ++ t :: w
    | some b => eff tags F b w := rfl
theorem PInv.step {tags : List Str} {F : Form} (g : Good tags F) {st : Form × List Bool} (i : PInv tags F st) {k : Nat} (hk : k < F.length) : PInv tags F (needStep tags F st k) := by
  have p' := i.p.step g hk
  have len' := p'.len
  have ss := i.p.std hk
  have gl := g.std_len hk
  have wd : ∀ j, j < F.length → wordOf (needStep tags F st k).1 j = wordOf F j := fun j hj => by
    rw [wordOf_std (by rw [len']; exact hj), wordOf_std hj]
    exact (p'.std hj).1
  have wj : ∀ j t, j < F.length → j ≠ k → wayAt tags (needStep tags F st k).1 j t = wayAt tags st.1 j t := fun j t hj hne => by
    unfold wayAt
    show ((st.1.set k _)[j]?).bind _ = _
    rw [List.getElem?_set_ne (Ne.symm hne)]
  have wk : ∀ t, t ∈ tags → wayAt tags (needStep tags F st k).1 k t = pruneWay F st.2 (stdOf F k).1 t (wayAt tags st.1 k t) := fun t ht => by
    have e : (needStep tags F st k).1[k]? = some (pruneStd tags F st.2 (stdOf st.1 k)) := by
      show (st.1.set k _)[k]? = _
      rw [List.getElem?_set_self (by rw [i.p.len]; exact hk)]
    rw [wayAt_of e, way_prune (by rw [ss.2.1, gl]) ht, ss.1, wayAt_std (by rw [i.p.len]; exact hk)]
  have same : ∀ (w : Word) (j : Nat), j < F.length → (∀ t ∈ w, t ∈ tags) → eff tags (needStep tags F st k).1 j w = eff tags F j w := by
    intro w
    induction w with
    | nil => exact fun j hj _ => wd j hj
    | cons t w ih =>
      intro j hj ht
      have ht1 := ht t List.mem_cons_self
      have htw : ∀ x ∈ w, x ∈ tags := fun x hx => ht x (List.mem_cons_of_mem _ hx)
      rw [← i.same (t :: w) j hj ht, eff_cons, eff_cons]
      have wds : wordOf st.1 j = wordOf F j := by
        rw [wordOf_std (by rw [i.p.len]; exact hj), wordOf_std hj]
        exact (i.p.std hj).1
      have lt : ∀ n, wayAt tags st.1 j t = some n → n < F.length := fun n hn => by
        rw [wayAt_std (by rw [i.p.len]; exact hj)] at hn
        exact g.std_to hj ((i.p.std hj).2.2 n (way_mem hn))
      by_cases hjk : j = k
      · subst hjk
        rw [wk t ht1]
        cases e : wayAt tags st.1 j t with
        | none => show wordOf _ j ++ t :: w = wordOf st.1 j ++ t :: w; rw [wd j hj, wds]
        | some n =>
          have hn := lt n e
          by_cases hd : isNeedless F st.2 (stdOf F j).1 t n = true
          · have e2 : pruneWay F st.2 (stdOf F j).1 t (some n) = none := if_pos hd
            rw [e2]
            show wordOf _ j ++ t :: w = eff tags st.1 n w
            unfold isNeedless at hd
            rw [Bool.and_eq_true] at hd
            rw [i.same w n hn htw, i.set n hn hd.1 w htw, wd j hj, wordOf_std hn, of_decide_eq_true hd.2, wordOf_std hj]
            simp
          · have e2 : pruneWay F st.2 (stdOf F j).1 t (some n) = some n := if_neg hd
            rw [e2]
            show eff tags _ n w = eff tags st.1 n w
            rw [ih n hn htw, i.same w n hn htw]
      · rw [wj j t hj hjk]
        cases e : wayAt tags st.1 j t with
        | none => show wordOf _ j ++ t :: w = wordOf st.1 j ++ t :: w; rw [wd j hj, wds]
        | some n =>
          have hn := lt n e
          show eff tags _ n w = eff tags st.1 n w
          rw [ih n hn htw, i.same w n hn htw]
  refine ⟨p', same, fun j hj hs w hw => ?_⟩
  have hs : (st.2.set k ((pruneWays tags F st.2 (stdOf st.1 k)).all Option.isNone)).getD j false = true := hs
  rw [List.getD_eq_getElem?_getD] at hs
  by_cases hjk : k = j
  · subst hjk
    rw [List.getElem?_set_self (by rw [i.p.lenS]; exact hk)] at hs
    have hs : (pruneWays tags F st.2 (stdOf st.1 k)).all Option.isNone = true := hs
    rw [← same w k hk hw]
    cases w with
    | nil =>
      show wordOf _ k = _
      rw [wd k hk, List.append_nil]
    | cons t w =>
      rw [eff_cons]
      cases e : wayAt tags (needStep tags F st k).1 k t with
      | none => show wordOf _ k ++ _ = _; rw [wd k hk]
      | some n =>
        have e1 : (needStep tags F st k).1[k]? = some (pruneStd tags F st.2 (stdOf st.1 k)) := by
          show (st.1.set k _)[k]? = _
          rw [List.getElem?_set_self (by rw [i.p.len]; exact hk)]
        rw [wayAt_of e1] at e
        have := List.all_eq_true.mp hs _ (way_mem e)
        cases this
  · rw [List.getElem?_set_ne hjk, ← List.getD_eq_getElem?_getD] at hs
    exact i.set j hj hs w hw
theorem PInv.fold {tags : List Str} {F : Form} (g : Good tags F) : ∀ (ks : List Nat) (st : Form × List Bool), PInv tags F st → (∀ k ∈ ks, k < F.length) → PInv tags F (ks.foldl (needStep tags F) st)
  | [], _, p, _ => p
  | k :: ks, st, p, h => PInv.fold g ks (needStep tags F st k) (p.step g (h k List.mem_cons_self)) fun j hj => h j (List.mem_cons_of_mem _ hj)
theorem needInv {tags : List Str} {F : Form} (g : Good tags F) : PInv tags F (needFold tags F (byLen F)) := PInv.fold g _ _ PInv.start fun k hk => byLen_lt hk
theorem needless_eff {tags : List Str} {F : Form} (g : Good tags F) {w : Word} {k : Nat} (hk : k < F.length) (hw : ∀ t ∈ w, t ∈ tags) : eff tags (needless tags F) k w = eff tags F k w := (needInv g).same w k hk hw
theorem needless_length {tags : List Str} {F : Form} (g : Good tags F) : (needless tags F).length = F.length := (needInv g).p.len
theorem needless_good {tags : List Str} {F : Form} (g : Good tags F) : Good tags (needless tags F) := by
  have p := (needInv g).p
  have hl := p.len
  have key : ∀ s ∈ needless tags F, ∃ k, k < F.length ∧ s = stdOf (needless tags F) k := fun s hs => by
    obtain ⟨k, hk, e⟩ := List.mem_iff_getElem.mp hs
    have e' : (needless tags F)[k]? = some s := by rw [List.getElem?_eq_getElem hk, e]
    rw [stdOf_get hk] at e'
    exact ⟨k, by rw [← needless_length g]; exact hk, (Option.some.inj e').symm⟩
  refine ⟨by rw [needless_length g]; exact g.pos, fun s hs => ?_, fun s hs n hn => ?_, by rw [needless_length g]; exact g.small⟩
  · obtain ⟨k, hk, rfl⟩ := key s hs
    exact (p.std hk).2.1.trans (g.std_len hk)
  · obtain ⟨k, hk, rfl⟩ := key s hs
    rw [needless_length g]
    exact g.std_to hk ((p.std hk).2.2 n hn)
end QM
end

section
set_option linter.all false
set_option autoImplicit false
/-! Qleast2: classes that stay, the order in which they are met. -/
namespace QM
open PySem QB
structure Stable (F : Form) (cs : List Nat) : Prop where
  len : cs.length = F.length
  word : ∀ i j, i < F.length → j < F.length → clsOf cs i = clsOf cs j → (stdOf F i).1 = (stdOf F j).1
  ways : ∀ i j, i < F.length → j < F.length → clsOf cs i = clsOf cs j → (stdOf F i).2.map (Option.map (clsOf cs)) = (stdOf F j).2.map (Option.map (clsOf cs))
theorem way_map (tags : List Str) (s : Std) (f : Option Nat → Option Nat) (hf : f none = none) (t : Str) : way tags (s.1, s.2.map f) t = f (way tags s t) := by
  unfold way
  show ((s.2.map f)[ixOf tags t]?).join = f ((s.2[ixOf tags t]?).join)
  rw [List.getElem?_map]
  cases s.2[ixOf tags t]? with
  | none => exact hf.symm
  | some x => rfl
theorem Stable.way {F : Form} {cs : List Nat} (S : Stable F cs) (tags : List Str) {i j : Nat} (hi : i < F.length) (hj : j < F.length) (h : clsOf cs i = clsOf cs j) (t : Str) : (way tags (stdOf F i) t).map (clsOf cs) = (way tags (stdOf F j) t).map (clsOf cs) := by
  have e := S.ways i j hi hj h
  have e1 := way_map tags (stdOf F i) (Option.map (clsOf cs)) rfl t
  have e2 := way_map tags (stdOf F j) (Option.map (clsOf cs)) rfl t
  rw [← e1, ← e2, e]
  rfl
theorem Stable.eff {tags : List Str} {F : Form} {cs : List Nat} (g : Good tags F) (S : Stable F cs) : ∀ (w : Word) (i j : Nat), i < F.length → j < F.length → clsOf cs i = clsOf cs j → eff tags F i w = eff tags F j w
  | [], i, j, hi, hj, h => by
    show wordOf F i = wordOf F j
    rw [wordOf_std hi, wordOf_std hj]
    exact S.word i j hi hj h
  | t :: w, i, j, hi, hj, h => by
    rw [eff_cons, eff_cons, wayAt_std hi, wayAt_std hj, wordOf_std hi, wordOf_std hj, S.word i j hi hj h]
    have e := S.way tags hi hj h t
    cases e1 : QM.way tags (stdOf F i) t with
    | none =>
      rw [e1] at e
      cases e2 : QM.way tags (stdOf F j) t with
      | none => rfl
      | some n =>
        rw [e2] at e
        cases e
    | some m =>
      rw [e1] at e
      cases e2 : QM.way tags (stdOf F j) t with
      | none =>
        rw [e2] at e
        cases e
      | some n =>
        rw [e2] at e
        have e : some (clsOf cs m) = some (clsOf cs n) := e
        exact Stable.eff g S w m n (g.std_to hi (way_mem e1)) (g.std_to hj (way_mem e2)) (Option.some.inj e)
theorem idxOf_pre' {l t : List Nat} {x : Nat} (h : x ∈ l) : (l ++ t).idxOf x = l.idxOf x := by
  rw [List.idxOf_append, if_pos h]
theorem newStd_pre {cs met t : List Nat} {s : Std} (h : ∀ n, some n ∈ s.2 → clsOf cs n ∈ met.map (clsOf cs)) : newStd cs (met ++ t) s = newStd cs met s := by
  unfold newStd
  congr 1
  refine List.map_congr_left fun w hw => ?_
  cases w with
  | none => rfl
  | some n =>
    show some ((((met ++ t).map (clsOf cs)).idxOf (clsOf cs n))) = some ((met.map (clsOf cs)).idxOf (clsOf cs n))
    rw [List.map_append, idxOf_pre' (h n hw)]
/-- what is told so far -/
structure OrdOf (F : Form) (cs met : List Nat) (told : Form) : Prop where
  m : Met F cs met
  zero : met[0]? = some 0
  le : told.length ≤ met.length
  at_ : ∀ i, i < told.length → told[i]? = some (newStd cs met (stdOf F (met.getD i 0)))
  in_ : ∀ i, i < told.length → ∀ n, some n ∈ (stdOf F (met.getD i 0)).2 → clsOf cs n ∈ met.map (clsOf cs)
theorem getD_pre {l t : List Nat} {i : Nat} (h : i < l.length) : (l ++ t).getD i 0 = l.getD i 0 := by
  rw [List.getD_eq_getElem?_getD, List.getD_eq_getElem?_getD, List.getElem?_append_left h]
theorem OrdOf.step {tags : List Str} {F : Form} {cs met : List Nat} {told : Form} (g : Good tags F) (o : OrdOf F cs met told) (h : told.length < met.length) :
    OrdOf F cs (visitAll cs met (stdOf F (met.getD told.length 0)).2) (told ++ [newStd cs (visitAll cs met (stdOf F (met.getD told.length 0)).2) (stdOf F (met.getD told.length 0))]) := by
  have hm : met.getD told.length 0 ∈ met := by
    rw [List.getD_eq_getElem?_getD, List.getElem?_eq_getElem h]
    exact List.getElem_mem h
  have hF := o.m.lt _ hm
  obtain ⟨t, e⟩ := visitAll_pre cs (stdOf F (met.getD told.length 0)).2 met
  have has := visitAll_has cs (stdOf F (met.getD told.length 0)).2 met
  have hmet := o.m.visitAll (ws := (stdOf F (met.getD told.length 0)).2) fun n hn => g.std_to hF hn
  generalize hM : visitAll cs met (stdOf F (met.getD told.length 0)).2 = M at e has hmet
  have gd : ∀ i, i < met.length → M.getD i 0 = met.getD i 0 := fun i hi => by rw [e]; exact getD_pre hi
  have in' : ∀ i, i < told.length + 1 → ∀ n, some n ∈ (stdOf F (M.getD i 0)).2 → clsOf cs n ∈ M.map (clsOf cs) := fun i hi n hn => by
    rw [gd i (by omega)] at hn
    by_cases hl : i < told.length
    · rw [e, List.map_append]
      exact List.mem_append_left _ (o.in_ i hl n hn)
    · have : i = told.length := by omega
      subst this
      exact has n hn
  refine ⟨hmet, ?_, ?_, fun i hi => ?_, fun i hi => ?_⟩
  · rw [e, List.getElem?_append_left (by omega)]
    exact o.zero
  · rw [List.length_append, e, List.length_append]
    show told.length + 1 ≤ _
    omega
  · rw [List.length_append] at hi
    have hi : i < told.length + 1 := hi
    rw [gd i (by omega)]
    by_cases hl : i < told.length
    · rw [List.getElem?_append_left hl, o.at_ i hl, e, newStd_pre (o.in_ i hl)]
    · have : i = told.length := by omega
      subst this
      rw [List.getElem?_append_right (Nat.le_refl _), Nat.sub_self]
      rfl
  · rw [List.length_append] at hi
    exact in' i hi
theorem orderLoop_ord {tags : List Str} {F : Form} {cs : List Nat} (g : Good tags F) : ∀ (f : Nat) (met : List Nat) (told : Form), OrdOf F cs met told → F.length + 1 ≤ told.length + f → ∃ met', OrdOf F cs met' (orderLoop F cs f met told) ∧ (orderLoop F cs f met told).length = met'.length
  | 0, met, told, o, h => by
    have := o.le
    have := o.m.len
    omega
  | f + 1, met, told, o, h => by
    unfold orderLoop
    by_cases hl : told.length < met.length
    · rw [if_pos hl]
      exact orderLoop_ord g f _ _ (o.step g hl) (by rw [List.length_append]; show _ ≤ told.length + 1 + f; omega)
    · rw [if_neg hl]
      exact ⟨met, o, by have := o.le; omega⟩
theorem inOrder_ord {tags : List Str} {F : Form} (g : Good tags F) (cs : List Nat) : ∃ met, OrdOf F cs met (inOrder F cs) ∧ (inOrder F cs).length = met.length := by
  refine orderLoop_ord g (F.length + 1) [0] [] ⟨⟨by simp, fun m hm => ?_⟩, rfl, by simp, fun i hi => absurd hi (Nat.not_lt_zero _), fun i hi => absurd hi (Nat.not_lt_zero _)⟩ (by simp)
  rw [List.mem_singleton.mp hm]
  exact g.pos
theorem OrdOf.std {F : Form} {cs met : List Nat} {R : Form} (o : OrdOf F cs met R) {i : Nat} (h : i < R.length) : stdOf R i = newStd cs met (stdOf F (met.getD i 0)) := by
  have e := o.at_ i h
  rw [stdOf_get h] at e
  exact Option.some.inj e
theorem OrdOf.lt {F : Form} {cs met : List Nat} {R : Form} (o : OrdOf F cs met R) {i : Nat} (h : i < R.length) : met.getD i 0 < F.length := by
  have h' : i < met.length := Nat.lt_of_lt_of_le h o.le
  refine o.m.lt _ ?_
  rw [List.getD_eq_getElem?_getD, List.getElem?_eq_getElem h']
  exact List.getElem_mem h'
theorem OrdOf.idx {F : Form} {cs met : List Nat} {R : Form} (o : OrdOf F cs met R) (hl : R.length = met.length) {n : Nat} (h : clsOf cs n ∈ met.map (clsOf cs)) : (met.map (clsOf cs)).idxOf (clsOf cs n) < R.length ∧ clsOf cs (met.getD ((met.map (clsOf cs)).idxOf (clsOf cs n)) 0) = clsOf cs n := by
  have hlt := List.idxOf_lt_length_of_mem h
  have hlt' : (met.map (clsOf cs)).idxOf (clsOf cs n) < met.length := by rwa [List.length_map] at hlt
  refine ⟨by omega, ?_⟩
  have e := List.getElem_idxOf hlt
  rw [List.getElem_map] at e
  rw [List.getD_eq_getElem?_getD, List.getElem?_eq_getElem hlt']
  exact e
theorem OrdOf.eff {tags : List Str} {F : Form} {cs met : List Nat} {R : Form} (g : Good tags F) (S : Stable F cs) (o : OrdOf F cs met R) (hl : R.length = met.length) : ∀ (w : Word) (i : Nat), i < R.length → eff tags R i w = eff tags F (met.getD i 0) w
  | [], i, hi => by
    show wordOf R i = wordOf F _
    rw [wordOf_std hi, wordOf_std (o.lt hi), o.std hi]
    rfl
  | t :: w, i, hi => by
    rw [eff_cons, eff_cons, wayAt_std hi, wayAt_std (o.lt hi), wordOf_std hi, wordOf_std (o.lt hi), o.std hi]
    have e := way_map tags (stdOf F (met.getD i 0)) (newWay cs met) rfl t
    rw [show newStd cs met (stdOf F (met.getD i 0)) = ((stdOf F (met.getD i 0)).1, (stdOf F (met.getD i 0)).2.map (newWay cs met)) from rfl, e]
    cases e1 : way tags (stdOf F (met.getD i 0)) t with
    | none => rfl
    | some n =>
      have hn := way_mem e1
      obtain ⟨h1, h2⟩ := o.idx hl (o.in_ i hi n hn)
      show QM.eff tags R ((met.map (clsOf cs)).idxOf (clsOf cs n)) w = QM.eff tags F n w
      rw [OrdOf.eff g S o hl w _ h1]
      exact S.eff g w _ _ (o.lt h1) (g.std_to (o.lt hi) hn) h2
theorem OrdOf.good {tags : List Str} {F : Form} {cs met : List Nat} {R : Form} (g : Good tags F) (o : OrdOf F cs met R) (hl : R.length = met.length) : Good tags R := by
  have key : ∀ s ∈ R, ∃ k, k < R.length ∧ s = stdOf R k := fun s hs => by
    obtain ⟨k, hk, e⟩ := List.mem_iff_getElem.mp hs
    have e' : R[k]? = some s := by rw [List.getElem?_eq_getElem hk, e]
    rw [stdOf_get hk] at e'
    exact ⟨k, hk, (Option.some.inj e').symm⟩
  have h0 : 0 < met.length := (List.getElem?_eq_some_iff.mp o.zero).1
  refine ⟨by omega, fun s hs => ?_, fun s hs n hn => ?_, by have := o.m.len; have := g.small; omega⟩
  · obtain ⟨k, hk, rfl⟩ := key s hs
    rw [o.std hk]
    show ((stdOf F _).2.map _).length = _
    rw [List.length_map]
    exact g.std_len (o.lt hk)
  · obtain ⟨k, hk, rfl⟩ := key s hs
    rw [o.std hk] at hn
    obtain ⟨x, hx, e⟩ := List.mem_map.mp (show some n ∈ (stdOf F (met.getD k 0)).2.map (newWay cs met) from hn)
    cases x with
    | none => cases e
    | some m =>
      have e : some ((met.map (clsOf cs)).idxOf (clsOf cs m)) = some n := e
      rw [← Option.some.inj e]
      exact (o.idx hl (o.in_ k hk m hx)).1
end QM
end

section
set_option linter.all false
set_option autoImplicit false
/-! Qleast3: the classes that are found stay. -/
namespace QM
open PySem QB L2
section
variable {α : Type} [DecidableEq α]
theorem numb_cls {ms : List α} {i : Nat} {x : α} (h : ms[i]? = some x) : clsOf (QD.numb ms) i = (QD.seenOf ms).idxOf x := by
  unfold clsOf QD.numb
  rw [List.getD_eq_getElem?_getD, List.getElem?_map, h]
  rfl
theorem idxOf_inj' {l : List α} {x y : α} (hx : x ∈ l) (hy : y ∈ l) (h : l.idxOf x = l.idxOf y) : x = y := by
  have h1 := List.getElem_idxOf (List.idxOf_lt_length_of_mem hx)
  have h2 := List.getElem_idxOf (List.idxOf_lt_length_of_mem hy)
  rw [← h1, ← h2]
  congr 1
theorem numb_inj {ms : List α} {i j : Nat} {x y : α} (hi : ms[i]? = some x) (hj : ms[j]? = some y) : clsOf (QD.numb ms) i = clsOf (QD.numb ms) j ↔ x = y := by
  rw [numb_cls hi, numb_cls hj]
  constructor
  · exact idxOf_inj' ((QD.mem_seenOf ms x).mpr (List.mem_of_getElem? hi)) ((QD.mem_seenOf ms y).mpr (List.mem_of_getElem? hj))
  · exact fun e => by rw [e]
theorem idxOf_nodup {l : List α} (nd : l.Nodup) {k : Nat} (h : k < l.length) : l.idxOf l[k] = k := by
  have hm : l[k] ∈ l := List.getElem_mem h
  have h1 := List.idxOf_lt_length_of_mem hm
  have h2 := List.getElem_idxOf h1
  exact (List.getElem_inj nd).mp h2
theorem maxOf_numb {ms : List α} (h : ms ≠ []) : maxOf (QD.numb ms) + 1 = (QD.seenOf ms).length := by
  have h0 : 0 < (QD.seenOf ms).length := by
    cases ms with
    | nil => exact absurd rfl h
    | cons x r => exact List.length_pos_of_mem ((QD.mem_seenOf (x :: r) x).mpr List.mem_cons_self)
  have hk : (QD.seenOf ms).length - 1 < (QD.seenOf ms).length := by omega
  have e : maxOf (QD.numb ms) = (QD.seenOf ms).length - 1 := by
    refine maxOf_eq ?_ fun x hx => by have := numb_lt hx; omega
    have hm : (QD.seenOf ms)[(QD.seenOf ms).length - 1] ∈ ms := (QD.mem_seenOf ms _).mp (List.getElem_mem hk)
    have := idxOf_nodup (QD.seenOf_nodup ms) hk
    exact List.mem_map.mpr ⟨_, hm, this⟩
  omega
end
theorem nodup_sub_len : ∀ (l m : List Nat), l.Nodup → (∀ x ∈ l, x ∈ m) → l.length ≤ m.length
  | [], _, _, _ => Nat.zero_le _
  | x :: l, m, nd, h => by
    rw [List.nodup_cons] at nd
    have hx := h x List.mem_cons_self
    have h1 := nodup_sub_len l (m.erase x) nd.2 fun y hy => by
      have hy' := h y (List.mem_cons_of_mem _ hy)
      exact (List.mem_erase_of_ne (fun e => nd.1 (by rw [← e]; exact hy))).mpr hy'
    have h2 := List.length_erase_of_mem hx
    have h3 := List.length_pos_of_mem hx
    rw [List.length_cons]
    omega
theorem inj_of_cover {L : List Nat} {k : Nat} (hl : L.length ≤ k) (hc : ∀ x, x < k → x ∈ L) {i j x : Nat} (hi : L[i]? = some x) (hj : L[j]? = some x) : i = j := by
  rcases Nat.lt_trichotomy i j with h | h | h
  · exfalso
    have key : ∀ (i j : Nat), i ≠ j → L[i]? = some x → L[j]? = some x → False := fun i j hne hi hj => by
      have hjl : j < L.length := (List.getElem?_eq_some_iff.mp hj).1
      have h1 := nodup_sub_len (List.range k) (L.eraseIdx j) List.nodup_range fun y hy => by
        have hy' := hc y (List.mem_range.mp hy)
        obtain ⟨p, hp, e⟩ := List.mem_iff_getElem.mp hy'
        have e' : L[p]? = some y := by rw [List.getElem?_eq_getElem hp, e]
        rw [List.mem_eraseIdx_iff_getElem?]
        by_cases hpj : p = j
        · subst hpj
          rw [hj] at e'
          exact ⟨i, hne, by rw [hi]; exact e'⟩
        · exact ⟨p, hpj, e'⟩
      rw [List.length_range, List.length_eraseIdx, if_pos hjl] at h1
      omega
    exact key i j (by omega) hi hj
  · exact h
  · exfalso
    have key : ∀ (i j : Nat), i ≠ j → L[i]? = some x → L[j]? = some x → False := fun i j hne hi hj => by
      have hjl : j < L.length := (List.getElem?_eq_some_iff.mp hj).1
      have h1 := nodup_sub_len (List.range k) (L.eraseIdx j) List.nodup_range fun y hy => by
        have hy' := hc y (List.mem_range.mp hy)
        obtain ⟨p, hp, e⟩ := List.mem_iff_getElem.mp hy'
        have e' : L[p]? = some y := by rw [List.getElem?_eq_getElem hp, e]
        rw [List.mem_eraseIdx_iff_getElem?]
        by_cases hpj : p = j
        · subst hpj
          rw [hj] at e'
          exact ⟨i, hne, by rw [hi]; exact e'⟩
        · exact ⟨p, hpj, e'⟩
      rw [List.length_range, List.length_eraseIdx, if_pos hjl] at h1
      omega
    exact key i j (by omega) hi hj
/-- the class in a key -/
def keyCls : NestedKey → Nat
  | .tup (.num i :: _) => i.toNat
  | _ => 0
theorem partKeys_get {cs : List Nat} {F : Form} (hl : cs.length = F.length) {i : Nat} (hi : i < F.length) : (partKeys cs F)[i]? = some (partKey cs (clsOf cs i, stdOf F i)) := by
  have e1 : cs[i]? = some (clsOf cs i) := by
    unfold clsOf
    rw [List.getD_eq_getElem?_getD, List.getElem?_eq_getElem (by omega)]
    rfl
  have ez : (cs.zip F)[i]? = some (clsOf cs i, stdOf F i) := by
    rw [List.getElem?_zip_eq_some]
    exact ⟨e1, stdOf_get hi⟩
  unfold partKeys
  rw [List.getElem?_map, ez]
  rfl
theorem partKey_eq {cs : List Nat} {p q : Nat × Std} (h : partKey cs p = partKey cs q) : p.1 = q.1 ∧ p.2.2.map (wayNum cs) = q.2.2.map (wayNum cs) := by
  unfold partKey at h
  injection h with h
  injection h with h1 h2
  injection h1 with h1
  injection h2 with h2 _
  injection h2 with h2
  exact ⟨by omega, h2⟩
theorem wayNum_eq {cs : List Nat} {x y : Option Nat} (h : wayNum cs x = wayNum cs y) : x.map (clsOf cs) = y.map (clsOf cs) := by
  cases x with
  | none =>
    cases y with
    | none => rfl
    | some n =>
      have h : NestedKey.num (-1) = .num ((cs.getD n 0 : Nat) : Int) := h
      injection h with h
      omega
  | some m =>
    cases y with
    | none =>
      have h : NestedKey.num ((cs.getD m 0 : Nat) : Int) = .num (-1) := h
      injection h with h
      omega
    | some n =>
      have h : NestedKey.num ((cs.getD m 0 : Nat) : Int) = .num ((cs.getD n 0 : Nat) : Int) := h
      injection h with h
      show some (cs.getD m 0) = some (cs.getD n 0)
      congr 1
      omega
theorem wayNum_of {cs : List Nat} {x y : Option Nat} (h : x.map (clsOf cs) = y.map (clsOf cs)) : wayNum cs x = wayNum cs y := by
  cases x with
  | none =>
    cases y with
    | none => rfl
    | some n => cases h
  | some m =>
    cases y with
    | none => cases h
    | some n =>
      have h : some (cs.getD m 0) = some (cs.getD n 0) := h
      show NestedKey.num ((cs.getD m 0 : Nat) : Int) = .num ((cs.getD n 0 : Nat) : Int)
      rw [Option.some.inj h]
theorem part_fine {cs : List Nat} {F : Form} (hl : cs.length = F.length) {i j : Nat} (hi : i < F.length) (hj : j < F.length) (h : clsOf (part cs F) i = clsOf (part cs F) j) : clsOf cs i = clsOf cs j ∧ (stdOf F i).2.map (Option.map (clsOf cs)) = (stdOf F j).2.map (Option.map (clsOf cs)) := by
  obtain ⟨h1, h2⟩ := partKey_eq ((numb_inj (partKeys_get hl hi) (partKeys_get hl hj)).mp h)
  refine ⟨h1, ?_⟩
  have h2 : (stdOf F i).2.map (wayNum cs) = (stdOf F j).2.map (wayNum cs) := h2
  generalize (stdOf F i).2 = a at h2
  generalize (stdOf F j).2 = b at h2
  induction a generalizing b with
  | nil =>
    cases b with
    | nil => rfl
    | cons y b => cases h2
  | cons x a ih =>
    cases b with
    | nil => cases h2
    | cons y b =>
      rw [List.map_cons, List.map_cons] at h2
      injection h2 with h3 h4
      rw [List.map_cons, List.map_cons, wayNum_eq h3, ih b h4]
theorem part_coarse {α : Type} [DecidableEq α] {ms : List α} {F : Form} (hl : ms.length = F.length) (hc : (QD.seenOf (partKeys (QD.numb ms) F)).length ≤ (QD.seenOf ms).length) {i j : Nat} (hi : i < F.length) (hj : j < F.length) (h : clsOf (QD.numb ms) i = clsOf (QD.numb ms) j) :
    clsOf (part (QD.numb ms) F) i = clsOf (part (QD.numb ms) F) j := by
  have hl' : (QD.numb ms).length = F.length := by rw [QD.numb_len, hl]
  have gi := partKeys_get hl' hi
  have gj := partKeys_get hl' hj
  refine (numb_inj gi gj).mpr ?_
  have mi := (QD.mem_seenOf _ _).mpr (List.mem_of_getElem? gi)
  have mj := (QD.mem_seenOf _ _).mpr (List.mem_of_getElem? gj)
  obtain ⟨a, ha, ea⟩ := List.mem_iff_getElem.mp mi
  obtain ⟨b, hb, eb⟩ := List.mem_iff_getElem.mp mj
  have kc : ∀ p : Nat × Std, keyCls (partKey (QD.numb ms) p) = p.1 := fun p => by
    show ((p.1 : Int)).toNat = p.1
    omega
  have hcov : ∀ x, x < (QD.seenOf ms).length → x ∈ (QD.seenOf (partKeys (QD.numb ms) F)).map keyCls := fun x hx => by
    have hm : (QD.seenOf ms)[x] ∈ ms := (QD.mem_seenOf ms _).mp (List.getElem_mem hx)
    obtain ⟨p, hp, ep⟩ := List.mem_iff_getElem.mp hm
    have ep' : ms[p]? = some (QD.seenOf ms)[x] := by rw [List.getElem?_eq_getElem hp, ep]
    have e1 := numb_cls ep'
    rw [idxOf_nodup (QD.seenOf_nodup ms) hx] at e1
    have gp := partKeys_get hl' (show p < F.length by omega)
    refine List.mem_map.mpr ⟨_, (QD.mem_seenOf _ _).mpr (List.mem_of_getElem? gp), ?_⟩
    rw [kc]
    exact e1
  have e : a = b := inj_of_cover (L := (QD.seenOf (partKeys (QD.numb ms) F)).map keyCls) (k := (QD.seenOf ms).length) (by rw [List.length_map]; exact hc) hcov (x := clsOf (QD.numb ms) i)
    (by rw [List.getElem?_map, List.getElem?_eq_getElem ha, ea]; show some _ = _; rw [kc]) (by rw [List.getElem?_map, List.getElem?_eq_getElem hb, eb]; show some _ = _; rw [kc]; exact congrArg some h.symm)
  subst e
  rw [← ea, ← eb]
theorem wordKey_eq {s s' : Std} (h : wordKey s = wordKey s') : s.1 = s'.1 := by
  unfold wordKey at h
  injection h with h
  exact List.map_inj_right (fun x y e => by injection e) |>.mp h
theorem map_up {a b : Ways} {f g : Option Nat → Option Nat} {P : Option Nat → Prop} (ha : ∀ x ∈ a, P x) (hb : ∀ x ∈ b, P x) (up : ∀ x y, P x → P y → f x = f y → g x = g y) (h : a.map f = b.map f) : a.map g = b.map g := by
  induction a generalizing b with
  | nil =>
    cases b with
    | nil => rfl
    | cons y b => cases h
  | cons x a ih =>
    cases b with
    | nil => cases h
    | cons y b =>
      rw [List.map_cons, List.map_cons] at h
      injection h with h3 h4
      rw [List.map_cons, List.map_cons, up x y (ha x List.mem_cons_self) (hb y List.mem_cons_self) h3, ih (fun z hz => ha z (List.mem_cons_of_mem _ hz)) (fun z hz => hb z (List.mem_cons_of_mem _ hz)) h4]
structure AInv (F : Form) (many : Nat) (cs : List Nat) : Prop where
  num : ∃ ms : List NestedKey, cs = QD.numb ms ∧ ms.length = F.length
  word : ∀ i j, i < F.length → j < F.length → clsOf cs i = clsOf cs j → (stdOf F i).1 = (stdOf F j).1
  le : many ≤ F.length
  prev : many = 0 ∨ ∃ ms' : List NestedKey, ms'.length = F.length ∧ cs = part (QD.numb ms') F ∧ (QD.seenOf ms').length = many
theorem alikeLoop_stable {tags : List Str} {F : Form} (g : Good tags F) (hF : 0 < F.length) : ∀ (f many : Nat) (cs : List Nat), AInv F many cs → F.length + 1 ≤ f + many → Stable F (alikeLoop F f many cs)
  | 0, many, cs, a, h => by
    have := a.le
    omega
  | f + 1, many, cs, a, h => by
    obtain ⟨ms, hcs, hml⟩ := a.num
    have hne : ms ≠ [] := fun e => by
      rw [e] at hml
      have : (0 : Nat) = F.length := hml
      omega
    have hmax := maxOf_numb hne
    have hlen : cs.length = F.length := by rw [hcs, QD.numb_len, hml]
    unfold alikeLoop
    by_cases hm : many ≤ maxOf cs
    · rw [if_pos hm]
      refine alikeLoop_stable g hF f (maxOf cs + 1) (part cs F) ⟨⟨partKeys cs F, rfl, partKeys_len hlen⟩, fun i j hi hj e => ?_, ?_, .inr ⟨ms, hml, by rw [hcs], by rw [hcs]; exact hmax.symm⟩⟩ (by omega)
      · exact a.word i j hi hj (part_fine hlen hi hj e).1
      · rw [hcs, hmax]
        have := QD.seenOf_len ms
        omega
    · rw [if_neg hm]
      rcases a.prev with h0 | ⟨ms', hl', hp, hc⟩
      · omega
      · have hl2 : (QD.numb ms').length = F.length := by rw [QD.numb_len, hl']
        have hcount : (QD.seenOf (partKeys (QD.numb ms') F)).length ≤ (QD.seenOf ms').length := by
          have hpl : partKeys (QD.numb ms') F ≠ [] := fun e => by
            have := partKeys_len hl2
            rw [e] at this
            have : (0 : Nat) = F.length := this
            omega
          have := maxOf_numb hpl
          have e : maxOf cs = maxOf (QD.numb (partKeys (QD.numb ms') F)) := by rw [hp]; rfl
          omega
        refine ⟨hlen, a.word, fun i j hi hj e => ?_⟩
        rw [hp] at e ⊢
        obtain ⟨h1, h2⟩ := part_fine hl2 hi hj e
        have up : ∀ x y : Option Nat, (∀ n, x = some n → n < F.length) → (∀ n, y = some n → n < F.length) → x.map (clsOf (QD.numb ms')) = y.map (clsOf (QD.numb ms')) → x.map (clsOf (part (QD.numb ms') F)) = y.map (clsOf (part (QD.numb ms') F)) := fun x y hx hy e => by
          cases x with
          | none =>
            cases y with
            | none => rfl
            | some n => cases e
          | some m =>
            cases y with
            | none => cases e
            | some n =>
              have e : some (clsOf (QD.numb ms') m) = some (clsOf (QD.numb ms') n) := e
              show some _ = some _
              rw [part_coarse hl' hcount (hx m rfl) (hy n rfl) (Option.some.inj e)]
        exact map_up (P := fun x => ∀ n, x = some n → n < F.length) (fun x hx n e => g.std_to hi (e ▸ hx)) (fun x hx n e => g.std_to hj (e ▸ hx)) up h2
theorem alike_stable {tags : List Str} {F : Form} (g : Good tags F) : Stable F (alike F) := by
  refine alikeLoop_stable g g.pos (F.length + 1) 0 _ ⟨⟨wordKeys F, rfl, by simp [wordKeys]⟩, fun i j hi hj e => ?_, Nat.zero_le _, .inl rfl⟩ (Nat.le_refl _)
  have gi : (wordKeys F)[i]? = some (wordKey (stdOf F i)) := by
    unfold wordKeys
    rw [List.getElem?_map, stdOf_get hi]
    rfl
  have gj : (wordKeys F)[j]? = some (wordKey (stdOf F j)) := by
    unfold wordKeys
    rw [List.getElem?_map, stdOf_get hj]
    rfl
  exact wordKey_eq ((numb_inj gi gj).mp e)
/-- the least form makes what the form makes -/
theorem least_ord {tags : List Str} {F : Form} (g : Good tags F) : ∃ met, OrdOf (needless tags F) (alike (needless tags F)) met (least tags F) ∧ (least tags F).length = met.length := inOrder_ord (needless_good g) _
theorem least_eff {tags : List Str} {F : Form} (g : Good tags F) {w : Word} (hw : ∀ t ∈ w, t ∈ tags) : eff tags (least tags F) 0 w = eff tags F 0 w := by
  obtain ⟨met, o, hl⟩ := least_ord g
  have gN := needless_good g
  have h0 := o.zero
  have h1 : 0 < met.length := (List.getElem?_eq_some_iff.mp h0).1
  rw [o.eff gN (alike_stable gN) hl w 0 (by omega)]
  have e : met.getD 0 0 = 0 := by rw [List.getD_eq_getElem?_getD, h0]; rfl
  rw [e]
  exact needless_eff g g.pos hw
theorem least_make {tags : List Str} {F : Form} (g : Good tags F) {w : Word} (hw : ∀ t ∈ w, t ∈ tags) : make tags (least tags F) w = make tags F w := by
  rw [make_eff, make_eff]
  exact least_eff g hw
theorem least_good {tags : List Str} {F : Form} (g : Good tags F) : Good tags (least tags F) := by
  obtain ⟨met, o, hl⟩ := least_ord g
  exact o.good (needless_good g) hl
theorem least_len {tags : List Str} {F : Form} (g : Good tags F) : (least tags F).length ≤ F.length := by
  obtain ⟨met, o, hl⟩ := least_ord g
  have := o.m.len
  rw [needless_length g] at this
  omega
theorem least_word {tags : List Str} {F : Form} (g : Good tags F) {s : Std} (h : s ∈ least tags F) : ∃ s' ∈ F, s.1 = s'.1 := by
  obtain ⟨met, o, hl⟩ := least_ord g
  obtain ⟨k, hk, e⟩ := List.mem_iff_getElem.mp h
  have e' : (least tags F)[k]? = some s := by rw [List.getElem?_eq_getElem hk, e]
  rw [stdOf_get hk, o.std hk] at e'
  have hm := o.lt hk
  rw [needless_length g] at hm
  refine ⟨stdOf F (met.getD k 0), mem_of (stdOf_get hm), ?_⟩
  rw [← Option.some.inj e']
  exact ((needInv g).p.std hm).1
end QM
end

section
set_option linter.all false
set_option autoImplicit false
/-! Qleast4: a least form has no needless way. -/
namespace QM
open PySem QB L2
def allNone (s : Std) : Bool := s.2.all Option.isNone
structure NInv (tags : List Str) (F : Form) (P : List Nat) (st : Form × List Bool) : Prop where
  p : Pruned tags F st
  s : ∀ k ∈ P, st.2.getD k false = allNone (stdOf st.1 k)
  d : ∀ k ∈ P, ∀ t ∈ tags, ∀ m, way tags (stdOf st.1 k) t = some m → (stdOf F m).1 = (stdOf F k).1 ++ [t] → m ∈ P ∧ allNone (stdOf st.1 m) = false
theorem stdOf_set {F : Form} {k j : Nat} {s : Std} (h : k < F.length) : stdOf (F.set k s) j = if k = j then s else stdOf F j := by
  unfold stdOf
  rw [List.getD_eq_getElem?_getD, List.getD_eq_getElem?_getD]
  by_cases e : k = j
  · subst e
    rw [List.getElem?_set_self h, if_pos rfl]
    rfl
  · rw [List.getElem?_set_ne e, if_neg e]
theorem NInv.step {tags : List Str} {F : Form} {P : List Nat} {st : Form × List Bool} (g : Good tags F) (i : NInv tags F P st) {k : Nat} (hk : k < F.length) (hP : k ∉ P) (long : ∀ m, m < F.length → (stdOf F k).1.length < (stdOf F m).1.length → m ∈ P) : NInv tags F (P ++ [k]) (needStep tags F st k) := by
  have p' := i.p.step g hk
  have ss := i.p.std hk
  have gl := g.std_len hk
  have e1 : ∀ j, stdOf (needStep tags F st k).1 j = if k = j then pruneStd tags F st.2 (stdOf st.1 k) else stdOf st.1 j := fun j => stdOf_set (by rw [i.p.len]; exact hk)
  have e2 : ∀ j, (needStep tags F st k).2.getD j false = if k = j then allNone (pruneStd tags F st.2 (stdOf st.1 k)) else st.2.getD j false := fun j => by
    show (st.2.set k _).getD j false = _
    rw [List.getD_eq_getElem?_getD, List.getD_eq_getElem?_getD]
    by_cases e : k = j
    · subst e
      rw [List.getElem?_set_self (by rw [i.p.lenS]; exact hk), if_pos rfl]
      rfl
    · rw [List.getElem?_set_ne e, if_neg e]
  refine ⟨p', fun j hj => ?_, fun j hj t ht m hm hw => ?_⟩
  · rw [e1, e2]
    by_cases e : k = j
    · rw [if_pos e, if_pos e]
    · rw [if_neg e, if_neg e]
      rcases List.mem_append.mp hj with h | h
      · exact i.s j h
      · exact absurd (List.mem_singleton.mp h).symm e
  · rw [e1] at hm ⊢
    by_cases e : k = j
    · subst e
      rw [if_pos rfl, way_prune (by rw [ss.2.1, gl]) ht, ss.1] at hm
      have hw0 := pruneWay_some hm
      have hmF : m < F.length := g.std_to hk (ss.2.2 m (way_mem hw0))
      have hmP := long m hmF (by rw [hw, List.length_append]; show _ < _ + 1; omega)
      have hne : k ≠ m := fun e => hP (e ▸ hmP)
      rw [if_neg hne]
      refine ⟨List.mem_append_left _ hmP, ?_⟩
      rw [← i.s m hmP]
      rw [hw0] at hm
      have hm : (if isNeedless F st.2 (stdOf F k).1 t m = true then none else some m) = some m := hm
      cases hS : st.2.getD m false with
      | false => rfl
      | true =>
        have : isNeedless F st.2 (stdOf F k).1 t m = true := by
          unfold isNeedless
          rw [hS, decide_eq_true hw]
          rfl
        rw [if_pos this] at hm
        cases hm
    · rw [if_neg e] at hm
      rcases List.mem_append.mp hj with h | h
      · obtain ⟨h1, h2⟩ := i.d j h t ht m hm hw
        have hne : k ≠ m := fun e => hP (e ▸ h1)
        rw [if_neg hne]
        exact ⟨List.mem_append_left _ h1, h2⟩
      · exact absurd (List.mem_singleton.mp h).symm e
theorem NInv.fold {tags : List Str} {F : Form} (g : Good tags F) : ∀ (ks P : List Nat) (st : Form × List Bool), NInv tags F P st → (P ++ ks).Nodup → (∀ k, k < F.length ↔ k ∈ P ++ ks) → (ks.Pairwise fun i j => keyOf F i ≤ keyOf F j) → NInv tags F (P ++ ks) (ks.foldl (needStep tags F) st)
  | [], P, st, i, _, _, _ => by rw [List.append_nil]; exact i
  | k :: ks, P, st, i, nd, mem, pw => by
    rw [List.pairwise_cons] at pw
    have hk : k < F.length := (mem k).mpr (List.mem_append_right _ List.mem_cons_self)
    have nd' := List.nodup_append.mp nd
    have hP : k ∉ P := fun h => nd'.2.2 k h k List.mem_cons_self rfl
    have i' := i.step g hk hP fun m hm hl => by
      rcases List.mem_append.mp ((mem m).mp hm) with h | h
      · exact h
      · rcases List.mem_cons.mp h with h | h
        · rw [h] at hl
          omega
        · have := pw.1 m h
          unfold keyOf at this
          omega
    have e : P ++ k :: ks = (P ++ [k]) ++ ks := by simp
    rw [e] at nd mem ⊢
    exact NInv.fold g ks (P ++ [k]) (needStep tags F st k) i' nd mem pw.2
theorem needless_none {tags : List Str} {F : Form} (g : Good tags F) {k m : Nat} {t : Str} (hk : k < F.length) (ht : t ∈ tags) (h : way tags (stdOf (needless tags F) k) t = some m) (hw : (stdOf F m).1 = (stdOf F k).1 ++ [t]) : allNone (stdOf (needless tags F) m) = false := by
  have pm : (byLen F).Perm (List.range F.length) := List.mergeSort_perm _ _
  have pw : (byLen F).Pairwise fun i j => keyOf F i ≤ keyOf F j := by
    have := List.pairwise_mergeSort (le := fun i j => decide (keyOf F i ≤ keyOf F j)) (fun a b c h1 h2 => decide_eq_true (Int.le_trans (of_decide_eq_true h1) (of_decide_eq_true h2)))
      (fun a b => by
        rw [Bool.or_eq_true]
        rcases Int.le_total (keyOf F a) (keyOf F b) with h | h
        · exact .inl (decide_eq_true h)
        · exact .inr (decide_eq_true h)) (List.range F.length)
    exact this.imp fun h => of_decide_eq_true h
  have i := NInv.fold g (byLen F) [] (F, List.replicate F.length false) ⟨Pruned.start tags F, (fun _ h => nomatch h), fun _ h => nomatch h⟩ (pm.nodup_iff.mpr List.nodup_range) (fun k => by
    rw [List.nil_append, pm.mem_iff, List.mem_range]) pw
  rw [List.nil_append] at i
  have hkm : k ∈ byLen F := by rw [pm.mem_iff, List.mem_range]; exact hk
  exact (i.d k hkm t ht m h hw).2
theorem allNone_of {a b : Std} {f : Nat → Nat} (h : a.2.map (Option.map f) = b.2.map (Option.map f)) : allNone a = allNone b := by
  have key : ∀ s : Std, allNone s = (s.2.map (Option.map f)).all Option.isNone := fun s => by
    unfold allNone
    rw [List.all_map]
    congr 1
    funext x
    cases x <;> rfl
  rw [key, key, h]
theorem least_none {tags : List Str} {F : Form} (g : Good tags F) {i j : Nat} {t : Str} (hi : i < (least tags F).length) (ht : t ∈ tags) (h : way tags (stdOf (least tags F) i) t = some j) (hw : (stdOf (least tags F) j).1 = (stdOf (least tags F) i).1 ++ [t]) : allNone (stdOf (least tags F) j) = false := by
  obtain ⟨met, o, hl⟩ := least_ord g
  have gN := needless_good g
  have S := alike_stable gN
  have nl := needless_length g
  have p := (needInv g).p
  rw [o.std hi] at h hw
  have e := way_map tags (stdOf (needless tags F) (met.getD i 0)) (newWay (alike (needless tags F)) met) rfl t
  have h : way tags ((stdOf (needless tags F) (met.getD i 0)).1, (stdOf (needless tags F) (met.getD i 0)).2.map (newWay (alike (needless tags F)) met)) t = some j := h
  rw [e] at h
  cases e1 : way tags (stdOf (needless tags F) (met.getD i 0)) t with
  | none =>
    rw [e1] at h
    cases h
  | some m =>
    rw [e1] at h
    have h : some ((met.map (clsOf (alike (needless tags F)))).idxOf (clsOf (alike (needless tags F)) m)) = some j := h
    have hj := (Option.some.inj h).symm
    have hm := way_mem e1
    obtain ⟨h1, h2⟩ := o.idx hl (o.in_ i hi m hm)
    rw [← hj] at h1 h2
    have hmN := gN.std_to (o.lt hi) hm
    have hjN := o.lt h1
    rw [o.std h1] at hw ⊢
    have hw : (stdOf (needless tags F) (met.getD j 0)).1 = (stdOf (needless tags F) (met.getD i 0)).1 ++ [t] := hw
    rw [S.word _ _ hjN hmN h2] at hw
    have e3 : allNone (newStd (alike (needless tags F)) met (stdOf (needless tags F) (met.getD j 0))) = allNone (stdOf (needless tags F) (met.getD j 0)) := by
      unfold allNone newStd
      rw [List.all_map]
      congr 1
      funext x
      cases x <;> rfl
    rw [e3, allNone_of (S.ways _ _ hjN hmN h2)]
    have hiF : met.getD i 0 < F.length := by rw [← nl]; exact o.lt hi
    refine needless_none g hiF ht e1 ?_
    have w1 := (p.std (show m < F.length by omega)).1
    have w2 := (p.std hiF).1
    rw [← w1, ← w2]
    exact hw
theorem needless_same {tags : List Str} {R : Form} (g : Good tags R) (nd : tags.Nodup) (no : ∀ i j t, i < R.length → t ∈ tags → way tags (stdOf R i) t = some j → (stdOf R j).1 = (stdOf R i).1 ++ [t] → allNone (stdOf R j) = false) : needless tags R = R := by
  have all : ∀ (ks : List Nat) (st : Form × List Bool), st.1 = R → st.2.length = R.length → (∀ k, k < R.length → st.2.getD k false = true → allNone (stdOf R k) = true) → (∀ k ∈ ks, k < R.length) → (ks.foldl (needStep tags R) st).1 = R := by
    intro ks
    induction ks with
    | nil => exact fun st h _ _ _ => h
    | cons k ks ih =>
      intro st h1 hl h2 hk
      have hkR := hk k List.mem_cons_self
      have ps : pruneStd tags R st.2 (stdOf R k) = stdOf R k := by
        have e : pruneWays tags R st.2 (stdOf R k) = (stdOf R k).2 := by
          refine List.ext_getElem? fun q => ?_
          by_cases hq : q < tags.length
          · have e1 : tags[q]? = some tags[q] := List.getElem?_eq_getElem hq
            have hq2 : q < (stdOf R k).2.length := by rw [g.std_len hkR]; exact hq
            have e2 : (stdOf R k).2[q]? = some (stdOf R k).2[q] := List.getElem?_eq_getElem hq2
            rw [pruneWays_get e1 e2, e2]
            generalize (stdOf R k).2[q] = x at e2
            cases x with
            | none => rfl
            | some n =>
              have hn : n < R.length := g.std_to hkR (List.mem_of_getElem? e2)
              have hwy : way tags (stdOf R k) tags[q] = some n := by
                unfold way ixOf
                rw [idxOf_nodup nd hq, e2]
                rfl
              show some (if isNeedless R st.2 (stdOf R k).1 tags[q] n = true then none else some n) = some (some n)
              have hno : ¬ isNeedless R st.2 (stdOf R k).1 tags[q] n = true := fun hd => by
                unfold isNeedless at hd
                rw [Bool.and_eq_true] at hd
                have a1 := h2 n hn hd.1
                have a2 := no k n _ hkR (List.getElem_mem hq) hwy (of_decide_eq_true hd.2)
                rw [a1] at a2
                cases a2
              rw [if_neg hno]
          · rw [List.getElem?_eq_none (by rw [pruneWays_len (g.std_len hkR)]; omega), List.getElem?_eq_none (by rw [g.std_len hkR]; omega)]
        unfold pruneStd
        rw [e]
      refine ih (needStep tags R st k) ?_ (by show (st.2.set k _).length = _; rw [List.length_set, hl]) (fun j hj hs => ?_) fun j hj => hk j (List.mem_cons_of_mem _ hj)
      · show st.1.set k (pruneStd tags R st.2 (stdOf st.1 k)) = R
        rw [h1, ps]
        refine List.ext_getElem? fun q => ?_
        by_cases e : k = q
        · subst e
          rw [List.getElem?_set_self hkR, stdOf_get hkR]
        · rw [List.getElem?_set_ne e]
      · have hs : (st.2.set k (allNone (pruneStd tags R st.2 (stdOf st.1 k)))).getD j false = true := hs
        rw [h1, ps, List.getD_eq_getElem?_getD] at hs
        by_cases e : k = j
        · subst e
          rw [List.getElem?_set_self (by omega)] at hs
          exact hs
        · rw [List.getElem?_set_ne e, ← List.getD_eq_getElem?_getD] at hs
          exact h2 j hj hs
  refine all (byLen R) (R, List.replicate R.length false) rfl List.length_replicate (fun k hk h => ?_) fun k hk => byLen_lt hk
  have h : (List.replicate R.length false).getD k false = true := h
  rw [List.getD_eq_getElem?_getD, List.getElem?_replicate, if_pos hk] at h
  cases h
end QM
end

section
set_option linter.all false
set_option autoImplicit false
/-! Qleast5: the least form of a least form is itself. -/
namespace QM
open PySem QB L2
theorem map_up2 {β γ : Type} {a b : Ways} {f : Option Nat → β} {g : Option Nat → γ} {P : Option Nat → Prop} (ha : ∀ x ∈ a, P x) (hb : ∀ x ∈ b, P x) (up : ∀ x y, P x → P y → f x = f y → g x = g y) (h : a.map f = b.map f) : a.map g = b.map g := by
  induction a generalizing b with
  | nil =>
    cases b with
    | nil => rfl
    | cons y b => cases h
  | cons x a ih =>
    cases b with
    | nil => cases h
    | cons y b =>
      rw [List.map_cons, List.map_cons] at h
      injection h with h3 h4
      rw [List.map_cons, List.map_cons, up x y (ha x List.mem_cons_self) (hb y List.mem_cons_self) h3, ih (fun z hz => ha z (List.mem_cons_of_mem _ hz)) (fun z hz => hb z (List.mem_cons_of_mem _ hz)) h4]
def Resp (F : Form) (E : Nat → Nat → Prop) (cs : List Nat) : Prop := ∀ a b, a < F.length → b < F.length → E a b → clsOf cs a = clsOf cs b
theorem alike_coarse {F : Form} {E : Nat → Nat → Prop} (hw : ∀ a b, a < F.length → b < F.length → E a b → (stdOf F a).1 = (stdOf F b).1)
    (hE : ∀ cs, Resp F E cs → ∀ a b, a < F.length → b < F.length → E a b → (stdOf F a).2.map (Option.map (clsOf cs)) = (stdOf F b).2.map (Option.map (clsOf cs))) : Resp F E (alike F) := by
  have loop : ∀ (f many : Nat) (cs : List Nat), cs.length = F.length → Resp F E cs → Resp F E (alikeLoop F f many cs) := by
    intro f
    induction f with
    | zero => exact fun _ _ _ r => r
    | succ f ih =>
      intro many cs hl r
      unfold alikeLoop
      by_cases hm : many ≤ maxOf cs
      · rw [if_pos hm]
        refine ih _ _ (part_len hl) fun a b ha hb e => ?_
        refine (numb_inj (partKeys_get hl ha) (partKeys_get hl hb)).mpr ?_
        have e1 := r a b ha hb e
        have e2 : (stdOf F a).2.map (wayNum cs) = (stdOf F b).2.map (wayNum cs) := map_up2 (P := fun _ => True) (fun _ _ => trivial) (fun _ _ => trivial) (fun x y _ _ h => wayNum_of h) (hE cs r a b ha hb e)
        unfold partKey
        show NestedKey.tup [.num (clsOf cs a : Int), .tup ((stdOf F a).2.map (wayNum cs))] = .tup [.num (clsOf cs b : Int), .tup ((stdOf F b).2.map (wayNum cs))]
        rw [e1, e2]
      · rw [if_neg hm]
        exact r
  refine loop _ _ _ (by rw [QD.numb_len]; exact List.length_map _) fun a b ha hb e => ?_
  have gi : (wordKeys F)[a]? = some (wordKey (stdOf F a)) := by
    unfold wordKeys
    rw [List.getElem?_map, stdOf_get ha]
    rfl
  have gj : (wordKeys F)[b]? = some (wordKey (stdOf F b)) := by
    unfold wordKeys
    rw [List.getElem?_map, stdOf_get hb]
    rfl
  refine (numb_inj gi gj).mpr ?_
  unfold wordKey
  rw [hw a b ha hb e]
/-- the standings of a form put in order are apart -/
theorem ord_apart {tags : List Str} {F : Form} {met : List Nat} {R : Form} (g : Good tags F) (o : OrdOf F (alike F) met R) (hl : R.length = met.length) : ∀ i j, i < R.length → j < R.length → clsOf (alike R) i = clsOf (alike R) j → i = j := by
  have S := alike_stable g
  have gR := o.good g hl
  have S' := alike_stable gR
  have key : Resp F (fun a b => ∃ i j, i < R.length ∧ j < R.length ∧ clsOf (alike R) i = clsOf (alike R) j ∧ clsOf (alike F) a = clsOf (alike F) (met.getD i 0) ∧ clsOf (alike F) b = clsOf (alike F) (met.getD j 0)) (alike F) := by
    refine alike_coarse (fun a b ha hb e => ?_) fun cs r a b ha hb e => ?_
    · obtain ⟨i, j, hi, hj, h, h1, h2⟩ := e
      rw [S.word a _ ha (o.lt hi) h1, S.word b _ hb (o.lt hj) h2]
      have e := S'.word i j hi hj h
      rw [o.std hi, o.std hj] at e
      exact e
    · obtain ⟨i, j, hi, hj, h, h1, h2⟩ := e
      -- the same class of F, met
      have met_in : ∀ i, i < R.length → ∀ a, a < F.length → clsOf (alike F) a = clsOf (alike F) (met.getD i 0) → ∀ x ∈ (stdOf F a).2, ∀ m, x = some m → m < F.length ∧ clsOf (alike F) m ∈ met.map (clsOf (alike F)) := fun i hi a ha h1 x hx m e => by
        subst e
        refine ⟨g.std_to ha hx, ?_⟩
        have e := S.ways a _ ha (o.lt hi) h1
        have : some (clsOf (alike F) m) ∈ (stdOf F a).2.map (Option.map (clsOf (alike F))) := List.mem_map.mpr ⟨some m, hx, rfl⟩
        rw [e] at this
        obtain ⟨y, hy, ey⟩ := List.mem_map.mp this
        cases y with
        | none => cases ey
        | some n =>
          have ey : some (clsOf (alike F) n) = some (clsOf (alike F) m) := ey
          rw [← Option.some.inj ey]
          exact o.in_ i hi n hy
      have up1 : ∀ x y : Option Nat, (∀ m, x = some m → m < F.length ∧ clsOf (alike F) m ∈ met.map (clsOf (alike F))) → (∀ m, y = some m → m < F.length ∧ clsOf (alike F) m ∈ met.map (clsOf (alike F))) →
          x.map (clsOf (alike F)) = y.map (clsOf (alike F)) → x.map (clsOf cs) = y.map (clsOf cs) := fun x y hx hy e => by
        cases x with
        | none =>
          cases y with
          | none => rfl
          | some n => cases e
        | some m =>
          cases y with
          | none => cases e
          | some n =>
            have e : some (clsOf (alike F) m) = some (clsOf (alike F) n) := e
            obtain ⟨m1, m2⟩ := hx m rfl
            obtain ⟨n1, n2⟩ := hy n rfl
            obtain ⟨q1, q2⟩ := o.idx hl m2
            show some _ = some _
            rw [r m n m1 n1 ⟨_, _, q1, q1, rfl, q2.symm, by rw [q2]; exact (Option.some.inj e).symm⟩]
      have up2 : ∀ x y : Option Nat, (∀ m, x = some m → m < F.length ∧ clsOf (alike F) m ∈ met.map (clsOf (alike F))) → (∀ m, y = some m → m < F.length ∧ clsOf (alike F) m ∈ met.map (clsOf (alike F))) →
          (newWay (alike F) met x).map (clsOf (alike R)) = (newWay (alike F) met y).map (clsOf (alike R)) → x.map (clsOf cs) = y.map (clsOf cs) := fun x y hx hy e => by
        cases x with
        | none =>
          cases y with
          | none => rfl
          | some n => cases e
        | some m =>
          cases y with
          | none => cases e
          | some n =>
            obtain ⟨m1, m2⟩ := hx m rfl
            obtain ⟨n1, n2⟩ := hy n rfl
            obtain ⟨q1, q2⟩ := o.idx hl m2
            obtain ⟨q3, q4⟩ := o.idx hl n2
            have e : some (clsOf (alike R) ((met.map (clsOf (alike F))).idxOf (clsOf (alike F) m))) = some (clsOf (alike R) ((met.map (clsOf (alike F))).idxOf (clsOf (alike F) n))) := e
            show some _ = some _
            rw [r m n m1 n1 ⟨_, _, q1, q3, Option.some.inj e, q2.symm, q4.symm⟩]
      have mi := met_in i hi a ha h1
      have mi' := met_in i hi _ (o.lt hi) rfl
      have mj := met_in j hj b hb h2
      have mj' := met_in j hj _ (o.lt hj) rfl
      rw [map_up mi mi' up1 (S.ways a _ ha (o.lt hi) h1), map_up mj mj' up1 (S.ways b _ hb (o.lt hj) h2)]
      refine map_up2 (f := fun x => (newWay (alike F) met x).map (clsOf (alike R))) mi' mj' up2 ?_
      have e := S'.ways i j hi hj h
      rw [o.std hi, o.std hj] at e
      have e : ((stdOf F (met.getD i 0)).2.map (newWay (alike F) met)).map (Option.map (clsOf (alike R))) = ((stdOf F (met.getD j 0)).2.map (newWay (alike F) met)).map (Option.map (clsOf (alike R))) := e
      rw [List.map_map, List.map_map] at e
      exact e
  intro i j hi hj h
  have e := key _ _ (o.lt hi) (o.lt hj) ⟨i, j, hi, hj, h, rfl, rfl⟩
  have nd := o.m.nd
  have hi' : i < met.length := by omega
  have hj' : j < met.length := by omega
  have g1 : ∀ k (hk : k < met.length), (met.map (clsOf (alike F)))[k]'(by rw [List.length_map]; exact hk) = clsOf (alike F) (met.getD k 0) := fun k hk => by
    rw [List.getElem_map, List.getD_eq_getElem?_getD, List.getElem?_eq_getElem hk]
    rfl
  refine (List.getElem_inj (h₀ := by rw [List.length_map]; exact hi') (h₁ := by rw [List.length_map]; exact hj') nd).mp ?_
  rw [g1 i hi', g1 j hj']
  exact e
end QM
end

section
set_option linter.all false
set_option autoImplicit false
/-! Qleast6: a least form is in order. -/
namespace QM
open PySem QB L2
def orderMet (F : Form) (cs : List Nat) : Nat → List Nat → Form → List Nat
  | 0, met, _ => met
  | f + 1, met, told => if told.length < met.length then
      orderMet F cs f (visitAll cs met (stdOf F (met.getD told.length 0)).2) (told ++ [newStd cs (visitAll cs met (stdOf F (met.getD told.length 0)).2) (stdOf F (met.getD told.length 0))])
    else met
theorem orderMet_pre (F : Form) (cs : List Nat) : ∀ (f : Nat) (met : List Nat) (told : Form), ∃ t, orderMet F cs f met told = met ++ t
  | 0, met, _ => ⟨[], by simp [orderMet]⟩
  | f + 1, met, told => by
    unfold orderMet
    by_cases h : told.length < met.length
    · rw [if_pos h]
      obtain ⟨t1, e1⟩ := visitAll_pre cs (stdOf F (met.getD told.length 0)).2 met
      obtain ⟨t2, e2⟩ := orderMet_pre F cs f (visitAll cs met (stdOf F (met.getD told.length 0)).2) (told ++ [newStd cs (visitAll cs met (stdOf F (met.getD told.length 0)).2) (stdOf F (met.getD told.length 0))])
      exact ⟨t1 ++ t2, by rw [e2, e1, List.append_assoc]⟩
    · rw [if_neg h]
      exact ⟨[], by simp⟩
theorem orderMet_ord {tags : List Str} {F : Form} {cs : List Nat} (g : Good tags F) : ∀ (f : Nat) (met : List Nat) (told : Form), OrdOf F cs met told → F.length + 1 ≤ told.length + f → OrdOf F cs (orderMet F cs f met told) (orderLoop F cs f met told) ∧ (orderLoop F cs f met told).length = (orderMet F cs f met told).length
  | 0, met, told, o, h => by
    have := o.le
    have := o.m.len
    omega
  | f + 1, met, told, o, h => by
    unfold orderLoop orderMet
    by_cases hl : told.length < met.length
    · rw [if_pos hl, if_pos hl]
      exact orderMet_ord g f _ _ (o.step g hl) (by rw [List.length_append]; show _ ≤ told.length + 1 + f; omega)
    · rw [if_neg hl, if_neg hl]
      exact ⟨o, by have := o.le; omega⟩
section
variable {cs cs' M : List Nat} {n0 : Nat} (D : ∀ i j, i < n0 → j < n0 → clsOf cs' i = clsOf cs' j → i = j) (hM : M.length = n0)
include D hM
theorem visitAll_again : ∀ (ws : Ways) (mp t : List Nat), M = visitAll cs mp ws ++ t → visitAll cs' (List.range mp.length) (ws.map (newWay cs M)) = List.range (visitAll cs mp ws).length
  | [], mp, t, _ => rfl
  | w :: ws, mp, t, h => by
    have h' : M = visitAll cs (visit cs mp w) ws ++ t := h
    obtain ⟨t2, e2⟩ := visitAll_pre cs ws (visit cs mp w)
    have hp : M = visit cs mp w ++ (t2 ++ t) := by rw [h', e2, List.append_assoc]
    have one : visit cs' (List.range mp.length) (newWay cs M w) = List.range (visit cs mp w).length := by
      cases w with
      | none => rfl
      | some n =>
        show visit cs' (List.range mp.length) (some ((M.map (clsOf cs)).idxOf (clsOf cs n))) = _
        by_cases hm : clsOf cs n ∈ mp.map (clsOf cs)
        · have ev : visit cs mp (some n) = mp := if_pos hm
          rw [ev] at hp ⊢
          have ei : (M.map (clsOf cs)).idxOf (clsOf cs n) = (mp.map (clsOf cs)).idxOf (clsOf cs n) := by rw [hp, List.map_append, idxOf_pre' hm]
          have hlt := List.idxOf_lt_length_of_mem hm
          rw [List.length_map] at hlt
          rw [ei]
          exact if_pos (List.mem_map.mpr ⟨_, List.mem_range.mpr hlt, rfl⟩)
        · have ev : visit cs mp (some n) = mp ++ [n] := if_neg hm
          rw [ev] at hp ⊢
          have ei : (M.map (clsOf cs)).idxOf (clsOf cs n) = mp.length := by
            rw [hp, List.map_append, List.map_append, List.append_assoc, List.idxOf_append, if_neg hm, List.length_map]
            show List.idxOf (clsOf cs n) (clsOf cs n :: _) + mp.length = mp.length
            rw [List.idxOf_cons_self, Nat.zero_add]
          have hlen : mp.length < n0 := by
            rw [← hM, hp, List.length_append, List.length_append]
            show _ < _ + 1 + _
            omega
          rw [ei, List.length_append]
          have hno : clsOf cs' mp.length ∉ (List.range mp.length).map (clsOf cs') := fun hc => by
            obtain ⟨i, hi, e⟩ := List.mem_map.mp hc
            rw [List.mem_range] at hi
            have := D i mp.length (by omega) hlen e
            omega
          show (if clsOf cs' mp.length ∈ (List.range mp.length).map (clsOf cs') then List.range mp.length else List.range mp.length ++ [mp.length]) = List.range (mp.length + 1)
          rw [if_neg hno, List.range_succ]
    show visitAll cs' (visit cs' (List.range mp.length) (newWay cs M w)) (ws.map (newWay cs M)) = List.range (visitAll cs (visit cs mp w) ws).length
    rw [one]
    exact visitAll_again ws (visit cs mp w) t h'
theorem newStd_again {s : Std} {K : Nat} (hK : K ≤ n0) (hs : ∀ i, some i ∈ s.2 → i < K) : newStd cs' (List.range K) s = s := by
  have nd : ((List.range K).map (clsOf cs')).Nodup := by
    refine List.pairwise_map.mpr (List.nodup_range.imp_of_mem fun {i j} hi hj hne e => hne ?_)
    rw [List.mem_range] at hi hj
    exact D i j (by omega) (by omega) e
  unfold newStd
  have e : s.2.map (newWay cs' (List.range K)) = s.2 := by
    refine (List.map_congr_left fun x hx => ?_).trans (List.map_id _)
    cases x with
    | none => rfl
    | some i =>
      have hi := hs i hx
      have hi' : i < ((List.range K).map (clsOf cs')).length := by rw [List.length_map, List.length_range]; exact hi
      have := idxOf_nodup nd hi'
      rw [List.getElem_map, List.getElem_range] at this
      show some (((List.range K).map (clsOf cs')).idxOf (clsOf cs' i)) = some i
      rw [this]
  rw [e]
end
theorem order_again {tags : List Str} {F : Form} {cs cs' M : List Nat} {R : Form} (g : Good tags F) (oR : OrdOf F cs M R) (hM : R.length = M.length) (D : ∀ i j, i < R.length → j < R.length → clsOf cs' i = clsOf cs' j → i = j) :
    ∀ (f f' : Nat) (mp : List Nat) (told : Form), OrdOf F cs mp told → F.length + 1 ≤ told.length + f → R.length + 1 ≤ told.length + f' → orderMet F cs f mp told = M → orderLoop F cs f mp told = R → orderLoop R cs' f' (List.range mp.length) told = R
  | 0, _, mp, told, o, h, _, _, _ => by
    have := o.le
    have := o.m.len
    omega
  | f + 1, 0, mp, told, o, h, h', eM, _ => by
    obtain ⟨t, e⟩ := orderMet_pre F cs (f + 1) mp told
    rw [eM] at e
    have := o.le
    rw [hM, e, List.length_append] at h'
    omega
  | f + 1, f' + 1, mp, told, o, h, h', eM, eR => by
    unfold orderLoop at eR ⊢
    unfold orderMet at eM
    rw [List.length_range]
    by_cases hl : told.length < mp.length
    · rw [if_pos hl] at eR eM ⊢
      obtain ⟨t, et⟩ := orderMet_pre F cs f (visitAll cs mp (stdOf F (mp.getD told.length 0)).2) (told ++ [newStd cs (visitAll cs mp (stdOf F (mp.getD told.length 0)).2) (stdOf F (mp.getD told.length 0))])
      rw [eM] at et
      obtain ⟨t1, et1⟩ := visitAll_pre cs (stdOf F (mp.getD told.length 0)).2 mp
      have hs : told.length < R.length := by
        rw [hM, et, et1, List.length_append, List.length_append]
        omega
      have gd : (List.range mp.length).getD told.length 0 = told.length := by
        rw [List.getD_eq_getElem?_getD, List.getElem?_range hl]
        rfl
      have gM : M.getD told.length 0 = mp.getD told.length 0 := by
        rw [et, et1, List.append_assoc]
        exact getD_pre hl
      have sR := oR.std hs
      rw [gM] at sR
      have has := visitAll_has cs (stdOf F (mp.getD told.length 0)).2 mp
      have va := visitAll_again (cs' := cs') D hM.symm (stdOf F (mp.getD told.length 0)).2 mp t et
      have n1 : newStd cs (visitAll cs mp (stdOf F (mp.getD told.length 0)).2) (stdOf F (mp.getD told.length 0)) = stdOf R told.length := by
        rw [sR, et, newStd_pre has]
      have st := o.step g hl
      rw [n1] at eR eM st
      have hK : (visitAll cs mp (stdOf F (mp.getD told.length 0)).2).length ≤ R.length := by
        rw [hM]
        have := congrArg List.length et
        rw [List.length_append] at this
        omega
      have n2 : newStd cs' (List.range (visitAll cs mp (stdOf F (mp.getD told.length 0)).2).length) (stdOf R told.length) = stdOf R told.length := by
        refine newStd_again (cs' := cs') D hM.symm hK fun i hi => ?_
        rw [sR] at hi
        obtain ⟨x, hx, e⟩ := List.mem_map.mp (show some i ∈ (stdOf F (mp.getD told.length 0)).2.map (newWay cs M) from hi)
        cases x with
        | none => cases e
        | some n =>
          have e : some ((M.map (clsOf cs)).idxOf (clsOf cs n)) = some i := e
          have hc := has n hx
          rw [← Option.some.inj e, et, List.map_append, idxOf_pre' hc]
          have := List.idxOf_lt_length_of_mem hc
          rwa [List.length_map] at this
      have wR : (stdOf R told.length).2 = (stdOf F (mp.getD told.length 0)).2.map (newWay cs M) := by
        rw [sR]
        rfl
      rw [gd, wR, va, n2]
      exact order_again g oR hM D f f' _ _ st (by rw [List.length_append]; show _ ≤ told.length + 1 + f; omega) (by rw [List.length_append]; show _ ≤ told.length + 1 + f'; omega) eM eR
    · rw [if_neg hl] at eR ⊢
      exact eR
theorem inOrder_again {tags : List Str} {F : Form} (g : Good tags F) : inOrder (inOrder F (alike F)) (alike (inOrder F (alike F))) = inOrder F (alike F) := by
  have o0 : OrdOf F (alike F) [0] [] := ⟨⟨by simp, fun m hm => by rw [List.mem_singleton.mp hm]; exact g.pos⟩, rfl, by simp, fun i hi => absurd hi (Nat.not_lt_zero _), fun i hi => absurd hi (Nat.not_lt_zero _)⟩
  obtain ⟨o, hl⟩ := orderMet_ord g (F.length + 1) [0] [] o0 (by simp)
  have e := order_again g o hl (ord_apart g o hl) (F.length + 1) ((orderLoop F (alike F) (F.length + 1) [0] []).length + 1) [0] [] o0 (by simp) (by simp) rfl rfl
  exact e
theorem least_again {tags : List Str} {F : Form} (g : Good tags F) (nd : tags.Nodup) : least tags (least tags F) = least tags F := by
  have gR := least_good g
  have e := needless_same gR nd fun i j t hi ht h hw => least_none g hi ht h hw
  show inOrder (needless tags (least tags F)) (alike (needless tags (least tags F))) = _
  rw [e]
  exact inOrder_again (needless_good g)
end QM
end

section
set_option linter.all false
set_option autoImplicit false
/-! Qmade: which words are made of some word. -/
namespace QM
open PySem QB
/-- where a word leads -/
def leads (tags : List Str) (F : Form) : Nat → Word → Option Nat
  | i, [] => some i
  | i, t :: w => (wayAt tags F i t).bind fun b => leads tags F b w
theorem leads_eff {tags : List Str} {F : Form} : ∀ (p : Word) {i j : Nat} (q : Word), leads tags F i p = some j → eff tags F i (p ++ q) = eff tags F j q
  | [], i, j, q, h => by
    have h : some i = some j := h
    rw [Option.some.inj h]
    rfl
  | t :: p, i, j, q, h => by
    have h : (wayAt tags F i t).bind (fun b => leads tags F b p) = some j := h
    show eff tags F i (t :: (p ++ q)) = _
    rw [eff_cons]
    cases e : wayAt tags F i t with
    | none =>
      rw [e] at h
      cases h
    | some b =>
      rw [e] at h
      exact leads_eff p q h
theorem leads_snoc {tags : List Str} {F : Form} : ∀ (p : Word) {i j k : Nat} {t : Str}, leads tags F i p = some j → wayAt tags F j t = some k → leads tags F i (p ++ [t]) = some k
  | [], i, j, k, t, h, w => by
    have h : some i = some j := h
    rw [← Option.some.inj h] at w
    show (wayAt tags F i t).bind (fun b => leads tags F b []) = some k
    rw [w]
    rfl
  | s :: p, i, j, k, t, h, w => by
    have h : (wayAt tags F i s).bind (fun b => leads tags F b p) = some j := h
    show (wayAt tags F i s).bind (fun b => leads tags F b (p ++ [t])) = some k
    cases e : wayAt tags F i s with
    | none =>
      rw [e] at h
      cases h
    | some b =>
      rw [e] at h
      exact leads_snoc p h w
theorem eff_stop {tags : List Str} {F : Form} : ∀ (u : Word) (i : Nat), ∃ (j : Nat) (p r : Word), u = p ++ r ∧ leads tags F i p = some j ∧ eff tags F i u = wordOf F j ++ r ∧ (r = [] ∨ ∃ t r', r = t :: r' ∧ wayAt tags F j t = none)
  | [], i => ⟨i, [], [], rfl, rfl, by simp [eff], .inl rfl⟩
  | t :: u, i => by
    cases e : wayAt tags F i t with
    | none => exact ⟨i, [], t :: u, rfl, rfl, by rw [eff_cons, e], .inr ⟨t, u, rfl, e⟩⟩
    | some b =>
      obtain ⟨j, p, r, h1, h2, h3, h4⟩ := eff_stop (tags := tags) (F := F) u b
      refine ⟨j, t :: p, r, by rw [h1]; rfl, ?_, ?_, h4⟩
      · show (wayAt tags F i t).bind (fun b => leads tags F b p) = some j
        rw [e]
        exact h2
      · rw [eff_cons, e]
        exact h3
/-- a word is made exactly if it begins with the word of a standing that can be come to, and goes on with a tag for which this has no way -/
theorem made_iff {tags : List Str} {F : Form} {wd : Word} : (∃ u : Word, (∀ t ∈ u, t ∈ tags) ∧ eff tags F 0 u = wd) ↔ ∃ (j : Nat) (p r : Word), (∀ t ∈ p, t ∈ tags) ∧ (∀ t ∈ r, t ∈ tags) ∧ leads tags F 0 p = some j ∧ wd = wordOf F j ++ r ∧ (r = [] ∨ ∃ t r', r = t :: r' ∧ wayAt tags F j t = none) := by
  constructor
  · rintro ⟨u, hu, e⟩
    obtain ⟨j, p, r, h1, h2, h3, h4⟩ := eff_stop (tags := tags) (F := F) u 0
    refine ⟨j, p, r, fun t ht => hu t (by rw [h1]; exact List.mem_append_left _ ht), fun t ht => hu t (by rw [h1]; exact List.mem_append_right _ ht), h2, by rw [← e]; exact h3, h4⟩
  · rintro ⟨j, p, r, hp, hr, h2, h3, h4⟩
    refine ⟨p ++ r, fun t ht => (List.mem_append.mp ht).elim (hp t) (hr t), ?_⟩
    rw [leads_eff p r h2, h3]
    rcases h4 with rfl | ⟨t, r', rfl, e⟩
    · simp [eff]
    · rw [eff_cons, e]
/-- each standing that is met is come to by an earlier one -/
structure From (F : Form) (cs met : List Nat) (n : Nat) : Prop where
  by_ : ∀ i, 0 < i → i < met.length → ∃ j, j < i ∧ j < n ∧ ∃ m, some m ∈ (stdOf F (met.getD j 0)).2 ∧ clsOf cs m = clsOf cs (met.getD i 0)
theorem visitAll_new (cs : List Nat) : ∀ (ws : Ways) (met : List Nat) (i : Nat), met.length ≤ i → i < (visitAll cs met ws).length → some ((visitAll cs met ws).getD i 0) ∈ ws
  | [], met, i, h, h' => by
    have h' : i < met.length := h'
    omega
  | w :: ws, met, i, h, h' => by
    show some ((visitAll cs (visit cs met w) ws).getD i 0) ∈ w :: ws
    have h' : i < (visitAll cs (visit cs met w) ws).length := h'
    by_cases hi : (visit cs met w).length ≤ i
    · exact List.mem_cons_of_mem _ (visitAll_new cs ws (visit cs met w) i hi h')
    · obtain ⟨t, e⟩ := visitAll_pre cs ws (visit cs met w)
      rw [e, getD_pre (by omega)]
      cases w with
      | none =>
        have : (visit cs met none).length = met.length := rfl
        omega
      | some n =>
        by_cases hm : clsOf cs n ∈ met.map (clsOf cs)
        · have ev : visit cs met (some n) = met := if_pos hm
          rw [ev] at hi
          omega
        · have ev : visit cs met (some n) = met ++ [n] := if_neg hm
          rw [ev, List.length_append] at hi
          have hi : ¬ met.length + 1 ≤ i := hi
          have : i = met.length := by omega
          subst this
          rw [ev, List.getD_eq_getElem?_getD, List.getElem?_append_right (Nat.le_refl _), Nat.sub_self]
          exact List.mem_cons_self
theorem orderMet_from {F : Form} {cs : List Nat} : ∀ (f : Nat) (met : List Nat) (told : Form), told.length ≤ met.length → From F cs met told.length → ∃ n, n ≤ (orderMet F cs f met told).length ∧ From F cs (orderMet F cs f met told) n
  | 0, met, told, h, b => ⟨told.length, h, b⟩
  | f + 1, met, told, h, b => by
    unfold orderMet
    by_cases hl : told.length < met.length
    · rw [if_pos hl]
      obtain ⟨t, e⟩ := visitAll_pre cs (stdOf F (met.getD told.length 0)).2 met
      refine orderMet_from f _ _ (by rw [List.length_append, e, List.length_append]; show told.length + 1 ≤ _; omega) ⟨fun i h0 hi => ?_⟩
      rw [List.length_append]
      by_cases hm : i < met.length
      · obtain ⟨j, h1, h2, m, h3, h4⟩ := b.by_ i h0 hm
        refine ⟨j, h1, Nat.lt_succ_of_lt h2, m, ?_, ?_⟩
        · rw [e, getD_pre (by omega)]
          exact h3
        · rw [e, getD_pre hm]
          exact h4
      · refine ⟨told.length, by omega, Nat.lt_succ_self _, _, ?_, rfl⟩
        have := visitAll_new cs (stdOf F (met.getD told.length 0)).2 met i (by omega) hi
        have e2 : (visitAll cs met (stdOf F (met.getD told.length 0)).2).getD told.length 0 = met.getD told.length 0 := by rw [e, getD_pre hl]
        rw [e2]
        exact this
    · rw [if_neg hl]
      exact ⟨told.length, h, b⟩
/-- each standing of a form put in order can be come to -/
theorem inOrder_reach {tags : List Str} {F : Form} (g : Good tags F) (nd : tags.Nodup) (cs : List Nat) : ∀ i, i < (inOrder F cs).length → ∃ p : Word, (∀ t ∈ p, t ∈ tags) ∧ leads tags (inOrder F cs) 0 p = some i := by
  have o0 : OrdOf F cs [0] [] := ⟨⟨by simp, fun m hm => by rw [List.mem_singleton.mp hm]; exact g.pos⟩, rfl, by simp, fun i hi => absurd hi (Nat.not_lt_zero _), fun i hi => absurd hi (Nat.not_lt_zero _)⟩
  obtain ⟨o, hl⟩ := orderMet_ord g (F.length + 1) [0] [] o0 (by simp)
  obtain ⟨n, _, fr⟩ := orderMet_from (F := F) (cs := cs) (F.length + 1) [0] [] (Nat.zero_le _) ⟨fun i h0 hi => by
    have hi : i < 1 := hi
    omega⟩
  intro i
  induction i using Nat.strongRecOn with
  | ind i ih =>
    intro hi
    by_cases h0 : i = 0
    · subst h0
      exact ⟨[], fun _ h => (nomatch h), rfl⟩
    · have hl' : (inOrder F cs).length = (orderMet F cs (F.length + 1) [0] []).length := hl
      obtain ⟨j, hj, _, m, hm, hc⟩ := fr.by_ i (by omega) (by omega)
      obtain ⟨p, hp, lp⟩ := ih j hj (by omega)
      have hjR : j < (inOrder F cs).length := by omega
      obtain ⟨q, hq, eq⟩ := List.mem_iff_getElem.mp hm
      have hql : q < tags.length := by rw [← g.std_len (o.lt hjR)]; exact hq
      have eq' : (stdOf F ((orderMet F cs (F.length + 1) [0] []).getD j 0)).2[q]? = some (some m) := by rw [List.getElem?_eq_getElem hq, eq]
      refine ⟨p ++ [tags[q]], fun t ht => (List.mem_append.mp ht).elim (hp t) (fun h => by rw [List.mem_singleton.mp h]; exact List.getElem_mem hql), leads_snoc p lp ?_⟩
      have hw : way tags (stdOf F ((orderMet F cs (F.length + 1) [0] []).getD j 0)) tags[q] = some m := by
        unfold way ixOf
        rw [idxOf_nodup nd hql, eq']
        rfl
      have sj := o.std hjR
      rw [wayAt_std hjR]
      rw [show stdOf (inOrder F cs) j = newStd cs (orderMet F cs (F.length + 1) [0] []) (stdOf F ((orderMet F cs (F.length + 1) [0] []).getD j 0)) from sj]
      have e := way_map tags (stdOf F ((orderMet F cs (F.length + 1) [0] []).getD j 0)) (newWay cs (orderMet F cs (F.length + 1) [0] [])) rfl tags[q]
      rw [show newStd cs (orderMet F cs (F.length + 1) [0] []) (stdOf F ((orderMet F cs (F.length + 1) [0] []).getD j 0)) = ((stdOf F ((orderMet F cs (F.length + 1) [0] []).getD j 0)).1, (stdOf F ((orderMet F cs (F.length + 1) [0] []).getD j 0)).2.map (newWay cs (orderMet F cs (F.length + 1) [0] []))) from rfl, e, hw]
      show some (((orderMet F cs (F.length + 1) [0] []).map (clsOf cs)).idxOf (clsOf cs m)) = some i
      have hiM : i < (orderMet F cs (F.length + 1) [0] []).length := by omega
      have hiM' : i < ((orderMet F cs (F.length + 1) [0] []).map (clsOf cs)).length := by rw [List.length_map]; exact hiM
      have e3 := idxOf_nodup o.m.nd hiM'
      rw [List.getElem_map] at e3
      rw [hc, List.getD_eq_getElem?_getD, List.getElem?_eq_getElem hiM]
      exact congrArg some e3
theorem least_reach {tags : List Str} {F : Form} (g : Good tags F) (nd : tags.Nodup) {i : Nat} (h : i < (least tags F).length) : ∃ p : Word, (∀ t ∈ p, t ∈ tags) ∧ leads tags (least tags F) 0 p = some i := inOrder_reach (needless_good g) nd _ i h
end QM
end

section
set_option Elab.async false
set_option linter.all false
set_option maxRecDepth 100000
namespace Law
open PySem PySem.Spec PyProof.Rows L2 LamX QB QM
theorem leads_lt {tags : List Str} {F : Form} (g : Good tags F) : ∀ (p : Word) {i j : Nat}, i < F.length → leads tags F i p = some j → j < F.length
  | [], i, j, hi, h => by
    have h : some i = some j := h
    rw [← Option.some.inj h]
    exact hi
  | t :: p, i, j, hi, h => by
    have h : (wayAt tags F i t).bind (fun b => leads tags F b p) = some j := h
    cases e : wayAt tags F i t with
    | none =>
      rw [e] at h
      cases h
    | some b =>
      rw [e] at h
      rw [wayAt_std hi] at e
      exact leads_lt g p (g.std_to hi (way_mem e)) h
theorem mem_stops {tags : List Str} {s : Std} {t : Str} (nd : tags.Nodup) (hl : s.2.length = tags.length) : t ∈ stopsOf tags s.2 ↔ t ∈ tags ∧ way tags s t = none := by
  unfold stopsOf
  constructor
  · intro h
    obtain ⟨z, hz, rfl⟩ := List.mem_map.mp h
    obtain ⟨hz1, hz2⟩ := List.mem_filter.mp hz
    obtain ⟨q, hq, eq⟩ := List.mem_iff_getElem.mp hz1
    have e : (tags.zip s.2)[q]? = some z := by rw [List.getElem?_eq_getElem hq, eq]
    obtain ⟨x, y⟩ := z
    rw [List.getElem?_zip_eq_some] at e
    obtain ⟨e1, e2⟩ := e
    have e1 : tags[q]? = some x := e1
    have e2 : s.2[q]? = some y := e2
    obtain ⟨hq', ex⟩ := List.getElem?_eq_some_iff.mp e1
    refine ⟨List.mem_of_getElem? e1, ?_⟩
    show way tags s x = none
    unfold way ixOf
    rw [← ex, idxOf_nodup nd hq', e2]
    have hz2 : y.isNone = true := hz2
    cases y with
    | none => rfl
    | some n => cases hz2
  · rintro ⟨ht, hw⟩
    have hlt := List.idxOf_lt_length_of_mem ht
    have e1 : tags[tags.idxOf t]? = some t := by rw [List.getElem?_eq_getElem hlt, List.getElem_idxOf]
    have e2 : s.2[tags.idxOf t]? = some (s.2[tags.idxOf t]'(by omega)) := List.getElem?_eq_getElem (by omega)
    unfold way ixOf at hw
    rw [e2] at hw
    have hw : s.2[tags.idxOf t]'(by omega) = none := hw
    rw [hw] at e2
    refine List.mem_map.mpr ⟨(t, none), List.mem_filter.mpr ⟨?_, rfl⟩, rfl⟩
    exact List.mem_of_getElem? (show (tags.zip s.2)[tags.idxOf t]? = some (t, none) by rw [List.getElem?_zip_eq_some]; exact ⟨e1, e2⟩)
/-- what in tells: whether the word is made of some word -/
theorem inForm_iff {tags : List Str} {G : Form} {wd : Word} (g : Good tags G) (nd : tags.Nodup) (reach : ∀ i, i < G.length → ∃ p : Word, (∀ t ∈ p, t ∈ tags) ∧ leads tags G 0 p = some i) (hw : ∀ t ∈ wd, t ∈ tags) : inForm tags G wd = true ↔ ∃ u : Word, (∀ t ∈ u, t ∈ tags) ∧ eff tags G 0 u = wd := by
  rw [made_iff]
  unfold inForm
  rw [List.any_eq_true]
  constructor
  · rintro ⟨s, hs, hm⟩
    obtain ⟨i, hi, ei⟩ := List.mem_iff_getElem.mp hs
    obtain ⟨p, hp, lp⟩ := reach i hi
    have es : stdOf G i = s := by
      have := stdOf_get hi
      rw [List.getElem?_eq_getElem hi, ei] at this
      exact (Option.some.inj this).symm
    unfold madeAt at hm
    rw [Bool.and_eq_true, Bool.or_eq_true] at hm
    have e1 : wd.take s.1.length = s.1 := of_decide_eq_true hm.1
    refine ⟨i, p, wd.drop s.1.length, hp, fun t ht => hw t (List.mem_of_mem_drop ht), lp, ?_, ?_⟩
    · rw [wordOf_std hi, es]
      have := List.take_append_drop s.1.length wd
      rw [e1] at this
      exact this.symm
    · rcases hm.2 with h | h
      · exact .inl (List.drop_eq_nil_of_le (by have := of_decide_eq_true h; omega))
      · cases e : wd[s.1.length]? with
        | none =>
          rw [e] at h
          cases h
        | some t =>
          rw [e] at h
          have ht := (mem_stops nd (by rw [← es]; exact g.std_len hi)).mp (of_decide_eq_true h)
          obtain ⟨hlt, et⟩ := List.getElem?_eq_some_iff.mp e
          refine .inr ⟨t, wd.drop (s.1.length + 1), by rw [List.drop_eq_getElem_cons hlt, et], ?_⟩
          rw [wayAt_std hi, es]
          exact ht.2
  · rintro ⟨j, p, r, hp, hr, lp, rfl, h4⟩
    have hj := leads_lt g p g.pos lp
    refine ⟨stdOf G j, mem_of (stdOf_get hj), ?_⟩
    rw [wordOf_std hj]
    unfold madeAt
    rw [List.take_left, decide_eq_true rfl, Bool.true_and, Bool.or_eq_true]
    rcases h4 with rfl | ⟨t, r', rfl, e⟩
    · exact .inl (decide_eq_true (by simp))
    · refine .inr ?_
      have e5 : ((stdOf G j).1 ++ t :: r')[(stdOf G j).1.length]? = some t := by
        rw [List.getElem?_append_right (Nat.le_refl _), Nat.sub_self]
        rfl
      rw [e5]
      rw [wayAt_std hj] at e
      exact decide_eq_true ((mem_stops nd (g.std_len hj)).mpr ⟨hr t List.mem_cons_self, e⟩)
theorem in_least {tags : List Str} {F : Form} {wd : Word} (g : Good tags F) (nd : tags.Nodup) (hw : ∀ t ∈ wd, t ∈ tags) : inForm tags (least tags F) wd = true ↔ ∃ u : Word, (∀ t ∈ u, t ∈ tags) ∧ make tags F u = wd := by
  rw [inForm_iff (least_good g) nd (fun i hi => least_reach g nd hi) hw]
  constructor
  · rintro ⟨u, hu, e⟩
    exact ⟨u, hu, by rw [make_eff, ← least_eff g hu]; exact e⟩
  · rintro ⟨u, hu, e⟩
    exact ⟨u, hu, by rw [least_eff g hu, ← make_eff]; exact e⟩
end Law
end

section
set_option linter.all false
set_option autoImplicit false
/-! Qthen: one eater behind the other. -/
namespace QM
open PySem QB
/-- ways to standings that stand further on -/
def shift (by_ : Nat) (ws : Ways) : Ways := ws.map fun x => x.map (· + by_)
/-- the ways with which the second one goes on where the first one has stopped -/
def onward (tags : List Str) (B : Form) (word : Word) : Ways :=
  if (walk tags B word).2 = word.length then (stdOf B (walk tags B word).1).2 else tags.map fun _ => none
def joinWay : Option Nat → Option Nat → Option Nat
  | none, o => o
  | some n, _ => some n
def thenStd (tags : List Str) (B : Form) (n : Nat) (s : Std) : Std :=
  (wordOf B (walk tags B s.1).1 ++ s.1.drop (walk tags B s.1).2, (s.2.zip (shift n (onward tags B s.1))).map fun z => joinWay z.1 z.2)
def thenForm (tags : List Str) (A B : Form) : Form := A.map (thenStd tags B A.length) ++ B.map fun s => (s.1, shift A.length s.2)
section
variable {tags : List Str} {A B : Form}
theorem thenForm_len : (thenForm tags A B).length = A.length + B.length := by
  unfold thenForm
  rw [List.length_append, List.length_map, List.length_map]
theorem thenForm_fst {i : Nat} (h : i < A.length) : stdOf (thenForm tags A B) i = thenStd tags B A.length (stdOf A i) := by
  have e := stdOf_get h
  have e2 : (thenForm tags A B)[i]? = some (thenStd tags B A.length (stdOf A i)) := by
    unfold thenForm
    rw [List.getElem?_append_left (by rw [List.length_map]; exact h), List.getElem?_map, e]
    rfl
  unfold stdOf at e2 ⊢
  rw [List.getD_eq_getElem?_getD, e2]
  rfl
theorem thenForm_snd {j : Nat} (h : j < B.length) : stdOf (thenForm tags A B) (A.length + j) = ((stdOf B j).1, shift A.length (stdOf B j).2) := by
  have e := stdOf_get h
  have e2 : (thenForm tags A B)[A.length + j]? = some ((stdOf B j).1, shift A.length (stdOf B j).2) := by
    unfold thenForm
    rw [List.getElem?_append_right (by rw [List.length_map]; omega), List.length_map, Nat.add_sub_cancel_left, List.getElem?_map, e]
    rfl
  unfold stdOf at e2 ⊢
  rw [List.getD_eq_getElem?_getD, e2]
  rfl
theorem shift_len {n : Nat} {ws : Ways} : (shift n ws).length = ws.length := List.length_map _
theorem onward_len (g : Good tags B) {w : Word} (h : ∀ t ∈ w, t ∈ tags) : (onward tags B w).length = tags.length := by
  unfold onward
  split
  · exact g.std_len (walk_lt g h).1
  · exact List.length_map _
theorem way_shift {n : Nat} {s : Std} {t : Str} : way tags (s.1, shift n s.2) t = (way tags s t).map (· + n) := by
  have e := way_map tags s (fun x => x.map (· + n)) rfl t
  exact e
theorem way_then {n : Nat} {s : Std} {t : Str} (ht : t ∈ tags) (h1 : s.2.length = tags.length) (g : Good tags B) (hw : ∀ t ∈ s.1, t ∈ tags) :
    way tags (thenStd tags B n s) t = joinWay (way tags s t) ((way tags (s.1, onward tags B s.1) t).map (· + n)) := by
  have hlt := List.idxOf_lt_length_of_mem ht
  have ho := onward_len g hw
  have e1 : s.2[tags.idxOf t]? = some (way tags s t) := by
    unfold way ixOf
    rw [List.getElem?_eq_getElem (by omega)]
    rfl
  have e2 : (onward tags B s.1)[tags.idxOf t]? = some (way tags (s.1, onward tags B s.1) t) := by
    unfold way ixOf
    show _ = some ((onward tags B s.1)[tags.idxOf t]?).join
    rw [List.getElem?_eq_getElem (by omega)]
    rfl
  have e3 : (shift n (onward tags B s.1))[tags.idxOf t]? = some ((way tags (s.1, onward tags B s.1) t).map (· + n)) := by
    unfold shift
    rw [List.getElem?_map, e2]
    rfl
  have e4 : (s.2.zip (shift n (onward tags B s.1)))[tags.idxOf t]? = some (way tags s t, (way tags (s.1, onward tags B s.1) t).map (· + n)) := by
    rw [List.getElem?_zip_eq_some]
    exact ⟨e1, e3⟩
  show (((s.2.zip (shift n (onward tags B s.1))).map fun z => joinWay z.1 z.2)[tags.idxOf t]?).join = _
  rw [List.getElem?_map, e4]
  rfl
theorem way_none {s : Std} {t : Str} (h : ∀ x ∈ s.2, x = none) : way tags s t = none := by
  unfold way ixOf
  cases e : s.2[tags.idxOf t]? with
  | none => rfl
  | some x =>
    rw [h x (List.mem_of_getElem? e)]
    rfl
/-- standings that are good, with words of the tags -/
structure GoodW (tags : List Str) (F : Form) : Prop extends Good tags F where
  sub : ∀ s ∈ F, ∀ t ∈ s.1, t ∈ tags
theorem eff_snd (gA : Good tags A) (gB : Good tags B) : ∀ (u : Word) (j : Nat), j < B.length → eff tags (thenForm tags A B) (A.length + j) u = eff tags B j u
  | [], j, h => by
    show wordOf _ _ = wordOf _ _
    rw [wordOf_std (by rw [thenForm_len]; omega), thenForm_snd h, wordOf_std h]
  | t :: u, j, h => by
    have hl : A.length + j < (thenForm tags A B).length := by rw [thenForm_len]; omega
    rw [eff_cons, eff_cons, wayAt_std hl, thenForm_snd h, way_shift, wayAt_std h]
    cases e : way tags (stdOf B j) t with
    | none =>
      show wordOf _ _ ++ _ = wordOf _ _ ++ _
      rw [wordOf_std hl, thenForm_snd h, wordOf_std h]
    | some m =>
      have hm := gB.std_to h (way_mem e)
      show eff tags (thenForm tags A B) (m + A.length) u = eff tags B m u
      rw [Nat.add_comm]
      exact eff_snd gA gB u m hm
theorem walkFrom_off (F : Form) : ∀ (w : Word) (a k : Nat), walkFrom tags F a k w = ((walkFrom tags F a 0 w).1, (walkFrom tags F a 0 w).2 + k)
  | [], a, k => by
    unfold walkFrom
    rw [Nat.zero_add]
  | t :: w, a, k => by
    unfold walkFrom
    cases wayAt tags F a t with
    | none => show (a, k) = (a, 0 + k); rw [Nat.zero_add]
    | some n =>
      show walkFrom tags F n (k + 1) w = ((walkFrom tags F n (0 + 1) w).1, (walkFrom tags F n (0 + 1) w).2 + k)
      rw [walkFrom_off F w n (k + 1), walkFrom_off F w n (0 + 1)]
      show (_, _) = (_, _)
      congr 1
      omega
/-- behind a word that is taken whole the rest is gone on with -/
theorem eff_append (g : Good tags B) : ∀ (w : Word) (i : Nat) (u : Word), i < B.length → (∀ t ∈ w, t ∈ tags) → eff tags B i (w ++ u) = (if (walkFrom tags B i 0 w).2 = w.length then eff tags B (walkFrom tags B i 0 w).1 u else wordOf B (walkFrom tags B i 0 w).1 ++ w.drop (walkFrom tags B i 0 w).2 ++ u)
  | [], i, u, hi, h => by
    unfold walkFrom
    rfl
  | t :: w, i, u, hi, h => by
    rw [List.cons_append, eff_cons]
    unfold walkFrom
    cases e : wayAt tags B i t with
    | none =>
      show wordOf B i ++ t :: (w ++ u) = if (0 : Nat) = (t :: w).length then _ else wordOf B i ++ (t :: w).drop 0 ++ u
      rw [if_neg (by simp)]
      simp
    | some n =>
      have hn : n < B.length := by
        rw [wayAt_std hi] at e
        exact g.std_to hi (way_mem e)
      show eff tags B n (w ++ u) = _
      rw [eff_append g w n u hn fun s hs => h s (List.mem_cons_of_mem _ hs)]
      show _ = if (walkFrom tags B n (0 + 1) w).2 = (t :: w).length then eff tags B (walkFrom tags B n (0 + 1) w).1 u else wordOf B (walkFrom tags B n (0 + 1) w).1 ++ (t :: w).drop (walkFrom tags B n (0 + 1) w).2 ++ u
      rw [walkFrom_off B w n (0 + 1)]
      generalize walkFrom tags B n 0 w = z
      obtain ⟨z1, z2⟩ := z
      by_cases hz : z2 = w.length
      · rw [if_pos hz, if_pos (by show z2 + (0 + 1) = w.length + 1; omega)]
      · rw [if_neg hz, if_neg (by show ¬ z2 + (0 + 1) = w.length + 1; omega)]
        rfl
theorem eff_then (gA : GoodW tags A) (gB : Good tags B) : ∀ (u : Word) (i : Nat), i < A.length → (∀ t ∈ u, t ∈ tags) → eff tags (thenForm tags A B) i u = eff tags B 0 (eff tags A i u)
  | [], i, hi, h => by
    have hs : ∀ t ∈ (stdOf A i).1, t ∈ tags := gA.sub _ (mem_of (stdOf_get hi))
    show wordOf _ _ = eff tags B 0 (wordOf A i)
    rw [wordOf_std (by rw [thenForm_len]; omega), thenForm_fst hi, wordOf_std hi]
    have e := walkFrom_eff tags B (stdOf A i).1 0 0
    rw [Nat.sub_zero] at e
    exact e
  | t :: u, i, hi, h => by
    have hs : ∀ t ∈ (stdOf A i).1, t ∈ tags := gA.sub _ (mem_of (stdOf_get hi))
    have ht := h t List.mem_cons_self
    have hu : ∀ s ∈ u, s ∈ tags := fun s hs => h s (List.mem_cons_of_mem _ hs)
    have hl : i < (thenForm tags A B).length := by rw [thenForm_len]; omega
    rw [eff_cons, wayAt_std hl, thenForm_fst hi, way_then ht (gA.std_len hi) gB hs, eff_cons, wayAt_std hi]
    cases e : way tags (stdOf A i) t with
    | some n =>
      have hn := gA.std_to hi (way_mem e)
      exact eff_then gA gB u n hn hu
    | none =>
      have go : ∀ (o : Option Nat) (d : Word), (∀ b, o = some b → eff tags (thenForm tags A B) b u = d) → (o = none → wordOf (thenForm tags A B) i ++ t :: u = d) → (match joinWay none o with
        | none => wordOf (thenForm tags A B) i ++ t :: u
        | some b => eff tags (thenForm tags A B) b u) = d := fun o d h1 h2 => by
        cases o with
        | none => exact h2 rfl
        | some b => exact h1 b rfl
      refine go _ _ (fun b hb => ?_) fun hb => ?_
      all_goals
        show _ = eff tags B 0 (wordOf A i ++ t :: u)
        rw [wordOf_std hi, eff_append gB _ 0 _ gB.pos hs]
        show _ = if (walk tags B (stdOf A i).1).2 = (stdOf A i).1.length then eff tags B (walk tags B (stdOf A i).1).1 (t :: u) else wordOf B (walk tags B (stdOf A i).1).1 ++ (stdOf A i).1.drop (walk tags B (stdOf A i).1).2 ++ t :: u
        have hw := walk_lt gB hs
        unfold onward at hb
      · by_cases hz : (walk tags B (stdOf A i).1).2 = (stdOf A i).1.length
        · rw [if_pos hz] at hb ⊢
          have e5 : way tags ((stdOf A i).1, (stdOf B (walk tags B (stdOf A i).1).1).2) t = way tags (stdOf B (walk tags B (stdOf A i).1).1) t := rfl
          rw [e5] at hb
          rw [eff_cons, wayAt_std hw.1]
          cases e6 : way tags (stdOf B (walk tags B (stdOf A i).1).1) t with
          | none =>
            rw [e6] at hb
            cases hb
          | some m =>
            rw [e6] at hb
            have hb : some (m + A.length) = some b := hb
            rw [← Option.some.inj hb, Nat.add_comm]
            exact eff_snd gA.toGood gB u m (gB.std_to hw.1 (way_mem e6))
        · rw [if_neg hz] at hb
          have e7 : way tags ((stdOf A i).1, tags.map fun _ => none) t = none := way_none fun x hx => by
            obtain ⟨_, _, e⟩ := List.mem_map.mp hx
            exact e.symm
          rw [e7] at hb
          cases hb
      · rw [wordOf_std hl, thenForm_fst hi]
        show (wordOf B (walk tags B (stdOf A i).1).1 ++ (stdOf A i).1.drop (walk tags B (stdOf A i).1).2) ++ t :: u = _
        by_cases hz : (walk tags B (stdOf A i).1).2 = (stdOf A i).1.length
        · rw [if_pos hz] at hb ⊢
          have e5 : way tags ((stdOf A i).1, (stdOf B (walk tags B (stdOf A i).1).1).2) t = way tags (stdOf B (walk tags B (stdOf A i).1).1) t := rfl
          rw [e5] at hb
          rw [eff_cons, wayAt_std hw.1]
          cases e6 : way tags (stdOf B (walk tags B (stdOf A i).1).1) t with
          | none =>
            show _ = wordOf B (walk tags B (stdOf A i).1).1 ++ t :: u
            rw [hz, List.drop_length, List.append_nil]
          | some m =>
            rw [e6] at hb
            cases hb
        · rw [if_neg hz]
theorem make_then (gA : GoodW tags A) (gB : Good tags B) {u : Word} (h : ∀ t ∈ u, t ∈ tags) : make tags (thenForm tags A B) u = make tags B (make tags A u) := by
  rw [make_eff, make_eff, make_eff]
  exact eff_then gA gB u 0 gA.pos h
theorem thenForm_good (gA : GoodW tags A) (gB : Good tags B) (hs : A.length + B.length ≤ 5000) : Good tags (thenForm tags A B) := by
  refine ⟨by rw [thenForm_len]; have := gA.pos; omega, fun s hs => ?_, fun s hs n hn => ?_, by rw [thenForm_len]; exact hs⟩
  · rcases List.mem_append.mp hs with h | h
    · obtain ⟨s', h1, rfl⟩ := List.mem_map.mp h
      show ((s'.2.zip (shift A.length (onward tags B s'.1))).map _).length = _
      rw [List.length_map, List.length_zip, shift_len, onward_len gB (gA.sub s' h1), gA.len s' h1, Nat.min_self]
    · obtain ⟨s', h1, rfl⟩ := List.mem_map.mp h
      show (shift A.length s'.2).length = _
      rw [shift_len, gB.len s' h1]
  · rw [thenForm_len]
    rcases List.mem_append.mp hs with h | h
    · obtain ⟨s', h1, rfl⟩ := List.mem_map.mp h
      obtain ⟨z, hz, e⟩ := List.mem_map.mp hn
      obtain ⟨z1, z2⟩ := z
      obtain ⟨m1, m2⟩ := List.of_mem_zip hz
      cases z1 with
      | some m =>
        have e : some m = some n := e
        have e := Option.some.inj e
        have := gA.to s' h1 m m1
        omega
      | none =>
        have e : z2 = some n := e
        subst e
        obtain ⟨x, hx, ex⟩ := List.mem_map.mp m2
        cases x with
        | none => cases ex
        | some m =>
          have ex : some (m + A.length) = some n := ex
          have ex := Option.some.inj ex
          unfold onward at hx
          split at hx
          · have := gB.std_to (walk_lt gB (gA.sub s' h1)).1 hx
            omega
          · obtain ⟨_, _, e⟩ := List.mem_map.mp hx
            cases e
    · obtain ⟨s', h1, rfl⟩ := List.mem_map.mp h
      obtain ⟨x, hx, ex⟩ := List.mem_map.mp hn
      cases x with
      | none => cases ex
      | some m =>
        have ex : some (m + A.length) = some n := ex
        have ex := Option.some.inj ex
        have := gB.to s' h1 m hx
        omega
end
end QM
end

section
set_option Elab.async false
set_option linter.all false
set_option maxRecDepth 100000
set_option maxHeartbeats 4000000
namespace Law
open PySem PySem.Spec PyProof.Rows L2 LamX QB QM
section
variable {P : Program} {w : World} {K : PySem.W.Frag} {mg : Str → Option Value} {base : Heap}
theorem pt_rep {α : Type} (n : Nat) (x : α) : (List.replicate n [x]).flatten = List.replicate n x := by
  induction n with
  | zero => rfl
  | succ n ih =>
    rw [List.replicate_succ, List.flatten_cons, ih]
    rfl
theorem pt_nones (n : Nat) : vWs (List.replicate n none) = List.replicate n V.non := by
  unfold vWs
  rw [List.map_replicate]
  rfl
def spNoWays : Sp := fun vs H Q _ => ∃ (a : Addr) (tags : Word), vs = [.ref a] ∧ WordAt H a tags ∧ tags.length ≤ 100 ∧ ∀ (p : Addr) (H' : Hp), Same H H' → H p = none → WaysAt H' p (List.replicate tags.length none) → Q (.ref p) H'
theorem ok_no_ways (X : TX K mg) : FnOk P w K mg base CX0 1 X.d_no_ways.a X.d_no_ways.fd ["tags"] spNoWays := by
  have nd := sc_no_ways.nd
  refine X.d_no_ways.F.ok sc_no_ways (fun vs H Q E h => ?_) (fun cdv A outer s H vs Q E hr h => ?_)
  · obtain ⟨a, tags, rfl, _⟩ := h
    rfl
  · obtain ⟨a, tags, rfl, ha, hz, k⟩ := h
    refine ⟨_, (pss_one (ps_ret (pe_op op_rep (pe_lst (pa_cons pe_non pa_nil)) (pe_callB (QB.call_lenK K) (by rfl) X.n_len PySem.boot_len (pa_cons (pv 0) pa_nil))))), ?_⟩
    try dsimp only [Cx.nox, Cx.wish, cxOf]
    refine ⟨by show 1 ≤ sizeLine; decide, fun q hq => ?_⟩
    have s1 := same_new (o := .lst [V.non]) hq
    have h1 : (upd H q (.lst [V.non])) q = some (.lst [V.non]) := upd_same
    generalize upd H q (.lst [V.non]) = H1 at s1 h1 ⊢
    refine ⟨_, rfl, _, _, rfl, .inl (SqL.of (Same.word s1 ha)), q, _, _, rfl, rfl, h1, by rw [vS_len]; omega, by rw [vS_len]; omega, by rw [vS_len]; show 1 * _ ≤ sizeLine; exact sz_le (by omega), fun p hp => ?_⟩
    refine k p _ (Same.new s1 hp) (s1.free hp) ?_
    unfold WaysAt
    rw [upd_same, vS_len, pt_nones, pt_rep]
    rfl
def spMoved : Sp := fun vs H Q _ => ∃ (b : Addr) (ws : Ways) (n : Nat), vs = [.ref b, .int (n : Int)] ∧ WaysAt H b ws ∧ ws.length ≤ 100 ∧ ∀ (p : Addr) (H' : Hp), Same H H' → H p = none → WaysAt H' p (shift n ws) → Q (.ref p) H'
theorem ok_moved (X : TX K mg) : FnOk P w K mg base CX0 1 X.d_moved.a X.d_moved.fd ["ways", "by"] spMoved := by
  have nd := sc_moved.nd
  refine X.d_moved.F.ok sc_moved (fun vs H Q E h => ?_) (fun cdv A outer s H vs Q E hr h => ?_)
  · obtain ⟨b, ws, n, rfl, _⟩ := h
    rfl
  · obtain ⟨b, ws, n, rfl, hb, hz, k⟩ := h
    refine ⟨_, (pss_one (ps_ret (pe_lc (own := [("way", 2)]) (g := gName 2) (tt := tYes) rfl nd (QB.pi_listK K (pv 0)) (blkOk_by (N := ["ways", "by", "way"]) (sc := defScope s_moved) (by decide +kernel)) (fun _ _ _ _ _ => pg_name (i := 2) nd rfl (Or.inl rfl)) (fun _ _ _ _ _ => pts_nil) (fun _ _ _ _ _ => (pe_ifExp (pt_cmpR op_isN (pv 2) pe_non (nomark _)) pe_non (pe_op op_add (pv 2) (pv 1))))))), ?_⟩
    try dsimp only [Cx.nox, Cx.wish, cxOf]
    refine ⟨_, rfl, _, rfl, ⟨_, SqL.of hb⟩, fun D hD => ?_⟩
    refine lc_map (walk_listWs (K := K) (a := b) (ws := ws)) hD (by omega) (fun H1 s1 => Same.ways s1 hb) (fun i => vW (((ws[i]?).join).map (· + n))) ?_ ?_
    · rintro i x H1 H2 kk hi s1 ⟨y, hy, rfl, rfl⟩ hk
      have e := hk _ (Same.refl H2)
      rw [hy] at e
      refine ⟨rfl, _, rfl, rfl, _, rfl, ?_⟩
      rw [vW_is]
      cases y with
      | none => exact iteT e
      | some m =>
        refine iteF ⟨_, rfl, _, rfl, _, _, rfl, rfl, ?_⟩
        have e : kk (.int ((m + n : Nat) : Int)) H2 := e
        rw [Int.natCast_add] at e
        exact e
    · intro H1 s1 e
      rw [range_map_get _ ws (fun y => vW (y.map (· + n))) (fun i x hx => by rw [hx]; rfl)] at e
      refine k D H1 s1 hD ?_
      unfold WaysAt shift vWs
      rw [e, List.map_map]
      rfl
/-! standings that are collected at D -/
def StdD (D : Addr) (H : Hp) (t : Addr) (s : Std) : Prop := ∃ a b, H t = some (.tup [.ref a, .ref b]) ∧ WordAt H a s.1 ∧ WaysAt H b s.2 ∧ a ≠ D ∧ b ≠ D
theorem StdD.same {D : Addr} {H H' : Hp} {t : Addr} {s : Std} (h : StdD D H t s) (e : Same H H') : StdD D H' t s := by
  obtain ⟨a, b, h1, h2, h3, h4, h5⟩ := h
  exact ⟨a, b, e _ _ h1, Same.word e h2, Same.ways e h3, h4, h5⟩
theorem StdD.upd {D : Addr} {H : Hp} {t : Addr} {s : Std} {xs ys : List V} (h : StdD D H t s) (hD : H D = some (.lst xs)) : StdD D (L2.upd H D (.lst ys)) t s := by
  obtain ⟨a, b, h1, h2, h3, h4, h5⟩ := h
  exact ⟨a, b, (upd_ne (ne_of h1 hD (fun z => nomatch z))).trans h1, Eq.trans (upd_ne h4) h2, Eq.trans (upd_ne h5) h3, h4, h5⟩
theorem stdsD_form {D : Addr} {H : Hp} {ts : List Addr} {F : Form} (h : Paired (StdD D H) ts F) (e : H D = some (.lst (ts.map V.ref))) : FormAt H D F := ⟨ts, e, L2.Paired.mapP h fun t s ⟨a, b, h1, h2, h3, _⟩ => ⟨a, b, h1, h2, h3⟩⟩
theorem paired_len {α β : Type} {R : α → β → Prop} {l : List α} {m : List β} (h : Paired R l m) : l.length = m.length := Paired.length h
/-- the words of what is one behind the other -/
theorem thenForm_words {tags : Word} {A B : Form} {n m : Nat} (hA : ∀ s ∈ A, s.1.length ≤ n) (hB : ∀ s ∈ B, s.1.length ≤ m) : ∀ s ∈ thenForm tags A B, s.1.length ≤ n + m := fun s hs => by
  rcases List.mem_append.mp hs with h | h
  · obtain ⟨s', h1, rfl⟩ := List.mem_map.mp h
    show (wordOf B (walk tags B s'.1).1 ++ s'.1.drop (walk tags B s'.1).2).length ≤ _
    rw [List.length_append, List.length_drop]
    have h2 := hA s' h1
    have h3 : (wordOf B (walk tags B s'.1).1).length ≤ m := by
      unfold wordOf
      cases e : B[(walk tags B s'.1).1]? with
      | none => exact Nat.zero_le _
      | some s => exact hB s (mem_of e)
    omega
  · obtain ⟨s', h1, rfl⟩ := List.mem_map.mp h
    have := hB s' h1
    show s'.1.length ≤ _
    omega
theorem thenForm_sub {tags : Word} {A B : Form} (hA : ∀ s ∈ A, ∀ t ∈ s.1, t ∈ tags) (hB : ∀ s ∈ B, ∀ t ∈ s.1, t ∈ tags) : ∀ s ∈ thenForm tags A B, ∀ t ∈ s.1, t ∈ tags := fun s hs t ht => by
  rcases List.mem_append.mp hs with h | h
  · obtain ⟨s', h1, rfl⟩ := List.mem_map.mp h
    rcases List.mem_append.mp ht with ht | ht
    · unfold wordOf at ht
      cases e : B[(walk tags B s'.1).1]? with
      | none =>
        rw [e] at ht
        cases ht
      | some s =>
        rw [e] at ht
        exact hB s (mem_of e) t ht
    · exact hA s' h1 t (List.mem_of_mem_drop ht)
  · obtain ⟨s', h1, rfl⟩ := List.mem_map.mp h
    exact hB s' h1 t ht
def spBehind (T : List (Addr × Str)) : Sp := fun vs H Q _ => ∃ (a b c : Addr) (tags : Word) (A B : Form), vs = [.ref a, .ref b, .ref c] ∧ WordAt H a tags ∧ FormAt H b A ∧ FormAt H c B ∧ Good tags A ∧ Good tags B ∧ WordsOk tags A ∧ WordsOk tags B ∧ tags.length ≤ 100 ∧
  A.length + B.length ≤ 5000 ∧ (∀ s ∈ A, s.1.length ≤ 2000) ∧ (∀ s ∈ B, s.1.length ≤ 2000) ∧ Tabs T H ∧
  ∀ (p : Addr) (L : List Tri) (H' : Hp), QB.Ext T H H' → Tabs T H' → NewF H H' p L (least tags (thenForm tags A B)) → Q (.ref p) H'
theorem ok_one_behind_other (X : TX K mg) (TB : LamX.TabB base mg X.lam_c X.lam_P) : FnOk P w K mg base CX0 5 X.d_one_behind_other.a X.d_one_behind_other.fd ["tags", "first", "second"] (spBehind (Tof X)) := by
  have nd := sc_one_behind_other.nd
  refine X.d_one_behind_other.F.ok sc_one_behind_other (fun vs H Q E h => ?_) (fun cdv A outer s H vs Q E hr h => ?_)
  · obtain ⟨a, b, c, tags, A, B, rfl, _⟩ := h
    rfl
  · obtain ⟨a, b, c, tags, A, B, rfl, ha, hA, hB, gA, gB, wA, wB, htl, hsz, lA, lB, tb, k⟩ := h
    refine ⟨_, (pss_cons (ps_set (i := 3) nd rfl (Or.inl rfl) (pe_lst pa_nil)) (pss_cons (ps_for PassesOwn.never rfl (QB.pi_listK K (pv 1)) (pg_tup (by rfl) (pgs_cons (pg_name (i := 4) nd rfl (Or.inl rfl)) (pgs_cons (pg_name (i := 5) nd rfl (Or.inl rfl)) (pgs_nil)))) (pss_cons (ps_asg (pe_call (ok_walked X) (hr.mono (by decide)) rfl X.d_walked.mg X.d_walked.F.kp X.d_walked.b .nil pass0 (pa_cons (pv 0) (pa_cons (pv 2) (pa_cons (pv 4) pa_nil)))) (pg_tup (by rfl) (pgs_cons (pg_name (i := 6) nd rfl (Or.inl rfl)) (pgs_cons (pg_name (i := 7) nd rfl (Or.inl rfl)) (pgs_nil))))) (pss_cons (ps_set (i := 8) nd rfl (Or.inl rfl) (pe_ifExp (pt_cmpR op_eq (pv 7) (pe_callB (QB.call_lenK K) (by rfl) X.n_len PySem.boot_len (pa_cons (pv 4) pa_nil)) (nomark _)) (pe_ix (QB.ix_tupK K) (pe_ix (QB.ix_listK K) (pv 2) (pv 6) (fun _ _ => rfl)) pe_int (fun _ _ => rfl)) (pe_call (ok_no_ways X) (hr.mono (by decide)) rfl X.d_no_ways.mg X.d_no_ways.F.kp X.d_no_ways.b .nil pass0 (pa_cons (pv 0) pa_nil)))) (pss_cons (ps_set (i := 8) nd rfl (Or.inl rfl) (pe_call (ok_moved X) (hr.mono (by decide)) rfl X.d_moved.mg X.d_moved.F.kp X.d_moved.b .nil pass0 (pa_cons (pv 8) (pa_cons (pe_callB (QB.call_lenK K) (by rfl) X.n_len PySem.boot_len (pa_cons (pv 1) pa_nil)) pa_nil)))) (pss_cons (ps_setLc (i := 9) (own := [("way", 10), ("after", 11)]) (g := gTup K 2 (gCons (gName 10) (gCons (gName 11) (gNil)))) (tt := tYes) rfl nd rfl rfl (sw_true rfl rfl rfl (by decide +kernel)) (QB.pi_zipK K (by rfl) X.n_zip (pa_cons (pv 5) (pa_cons (pv 8) pa_nil))) (blkOk_by (N := ["tags", "first", "second", "standings", "word", "ways", "at", "many", "onward", "joined", "way", "after"]) (sc := defScope s_one_behind_other) (by decide +kernel)) (fun _ _ _ _ _ => pg_tup (by rfl) (pgs_cons (pg_name (i := 10) nd rfl (Or.inl rfl)) (pgs_cons (pg_name (i := 11) nd rfl (Or.inl rfl)) (pgs_nil)))) (fun _ _ _ _ _ => pts_nil) (fun _ _ _ _ _ => (pe_ifExp (pt_cmpR op_isN (pv 10) pe_non (nomark _)) (pv 11) (pv 10)))) (pss_one (ps_expr (QB.pe_bmK K PySem.F.plainAttrs_list PySem.F.slot_list_append PySem.F.type_list_append mt_append (pv 3) (pa_cons (pe_tup (pa_cons (pe_op op_cat (pe_ix (QB.ix_tupK K) (pe_ix (QB.ix_listK K) (pv 2) (pv 6) (fun _ _ => rfl)) pe_int (fun _ _ => rfl)) (pe_slice (QB.sl_listK K) (pv 4) (po_some (pv 7)) po_none)) (pa_cons (pv 9) pa_nil))) pa_nil))))))))) (pss_cons (ps_for PassesOwn.never rfl (QB.pi_listK K (pv 2)) (pg_tup (by rfl) (pgs_cons (pg_name (i := 4) nd rfl (Or.inl rfl)) (pgs_cons (pg_name (i := 5) nd rfl (Or.inl rfl)) (pgs_nil)))) (pss_one (ps_expr (QB.pe_bmK K PySem.F.plainAttrs_list PySem.F.slot_list_append PySem.F.type_list_append mt_append (pv 3) (pa_cons (pe_tup (pa_cons (pv 4) (pa_cons (pe_call (ok_moved X) (hr.mono (by decide)) rfl X.d_moved.mg X.d_moved.F.kp X.d_moved.b .nil pass0 (pa_cons (pv 5) (pa_cons (pe_callB (QB.call_lenK K) (by rfl) X.n_len PySem.boot_len (pa_cons (pv 1) pa_nil)) pa_nil))) pa_nil))) pa_nil))))) (pss_one (ps_ret (pe_call (ok_least_form X TB) (hr.mono (by decide)) rfl X.d_least_form.mg X.d_least_form.F.kp X.d_least_form.b .nil pass0 (pa_cons (pv 0) (pa_cons (pv 3) pa_nil)))))))), ?_⟩
    try dsimp only [Cx.nox, Cx.wish, cxOf]
    refine ⟨by show 0 ≤ sizeLine; decide, fun D hD => ?_⟩
    obtain ⟨vA, hvA, hlA⟩ := FormAt.lst hA
    obtain ⟨vB, hvB, hlB⟩ := FormAt.lst hB
    refine ⟨_, rfl, _, rfl, ⟨_, SqL.of ((same_new hD) _ _ hvA)⟩, ?_⟩
    have hTl : ∀ i, i ≤ A.length → ((A.map (thenStd tags B A.length)).take i).length = i := fun i hi => by rw [List.length_take, List.length_map]; omega
    refine for_it (walk_listF (K := K) (p := b) (F := A)) (fun i σ H' => ∃ (v4 v5 v6 v7 v8 v9 : Option V) (ts : List Addr), σ = [some (.ref a), some (.ref b), some (.ref c), some (.ref D), v4, v5, v6, v7, v8, v9, none, none] ∧ Same H H' ∧ H' D = some (.lst (ts.map V.ref)) ∧ Paired (StdD D H') ts ((A.map (thenStd tags B A.length)).take i))
      ⟨_, _, _, _, _, _, [], rfl, same_new hD, upd_same, .nil⟩ (fun i σ H' _ ⟨_, _, _, _, _, _, _, _, s', _⟩ => Same.form s' hA) ?_ ?_
    · rintro i x σ H1 H2 hi ⟨v4, v5, v6, v7, v8, v9, ts, rfl, s1, hT, hP⟩ ⟨sd, t, p1, p2, hs, rfl, rfl, h1, h2, h3⟩
      have hin : ∀ t ∈ sd.1, t ∈ tags := wA.sub sd (mem_of hs)
      have hl1 := lA sd (mem_of hs)
      have hsl := gA.len sd (mem_of hs)
      have htsl : ts.length = i := by rw [paired_len hP, hTl i (Nat.le_of_lt hi)]
      have etk : (A.map (thenStd tags B A.length)).take (i + 1) = (A.map (thenStd tags B A.length)).take i ++ [thenStd tags B A.length sd] := by
        rw [List.take_succ, List.getElem?_map, hs]
        rfl
      refine ⟨t, _, rfl, SqT.of h1, rfl, _, _, rfl, _, _, rfl, rfl, ?_⟩
      refine ⟨_, rfl, _, rfl, _, rfl, ?_⟩
      refine ⟨a, c, p1, tags, B, sd.1, rfl, Same.word s1 ha, Same.form s1 hB, h2, gB, hin, by omega, fun q3 H3 s3 n3 h3' => ?_⟩
      have hw := walk_lt gB hin
      have eZ1 := stdOf_get hw.1
      have s13 := s1.trans s3
      refine ⟨q3, _, rfl, SqT.of h3', rfl, _, _, rfl, _, _, rfl, rfl, ?_⟩
      obtain ⟨vs, tt, r1, r2, f1, f2, f3, f4, f5, f6⟩ := (Same.form s13 hB).at eZ1
      have hoL := onward_len gB hin
      refine ⟨_, rfl, _, rfl, _, _, rfl, .inl (SqL.of (Same.word s3 h2)), ?_⟩
      refine ⟨rfl, _, rfl, ?_⟩
      rw [vS_len]
      by_cases hz : (walk tags B sd.1).2 = sd.1.length
      case' pos =>
        rw [decide_eq_true (congrArg (fun n : Nat => V.int (n : Int)) hz)]
        refine iteT ⟨_, rfl, _, rfl, _, _, _, _, rfl, rfl, SqL.of f1, atI_nat f3, _, _, _, _, rfl, rfl, SqT.of f4, rfl, ?_⟩
        have h4 : WaysAt H3 r2 (onward tags B sd.1) := by
          unfold onward
          rw [if_pos hz]
          exact f6
        have s34 := Same.refl H3
        have s14 := s13
        clear f1 f3 f4 f5 f6
        obtain ⟨r4, hr4⟩ : ∃ r4, r4 = r2 := ⟨_, rfl⟩
        subst hr4
        obtain ⟨H4, hH4⟩ : ∃ H4, H4 = H3 := ⟨_, rfl⟩
        subst hH4
      case' neg =>
        rw [decide_eq_false (fun e => hz (by injection e with e; omega))]
        refine iteF ⟨_, rfl, a, tags, rfl, Same.word s13 ha, htl, fun r4 H4 s34 n4 h4 => ?_⟩
        have h4 : WaysAt H4 r4 (onward tags B sd.1) := by
          unfold onward
          rw [if_neg hz]
          have e : (tags.map fun _ => (none : Option Nat)) = List.replicate tags.length none := by rw [List.map_const']
          rw [e]
          exact h4
        have s14 := s13.trans s34
        clear f1 f3 f4 f5 f6 n4
      all_goals
        clear hz
        obtain ⟨vs, tt, r1, r2', f1, f2, f3, f4, f5, f6⟩ := (Same.form s14 hB).at eZ1
        have h24 : WordAt H4 p1 sd.1 := Same.word s34 (Same.word s3 h2)
        have h34 : WaysAt H4 p2 sd.2 := Same.ways s34 (Same.ways s3 h3)
        have hT4 := s34 _ _ (s3 _ _ hT)
        -- moved
        refine ⟨_, rfl, _, rfl, _, _, rfl, .inl (SqL.of (s14 _ _ hvA)), ?_⟩
        rw [hlA]
        refine ⟨r4, onward tags B sd.1, A.length, rfl, h4, by omega, fun r5 H5 s5 n5 h5 => ?_⟩
        have h25 := Same.word s5 h24
        have h35 := Same.ways s5 h34
        have hT5 := s5 _ _ hT4
        -- joined
        have hsh : (shift A.length (onward tags B sd.1)).length = tags.length := by rw [shift_len, hoL]
        refine ⟨_, rfl, _, rfl, p2, r5, _, _, rfl, SqL.of h35, SqL.of h5, fun D2 hD2 => ?_⟩
        refine lc_map (walk_zip (K := K) (a := p2) (b := r5) (xs := vWs sd.2) (ys := vWs (shift A.length (onward tags B sd.1))) (n := tags.length) (by rw [vWs_len, vWs_len, hsl, hsh, Nat.min_self])) hD2 (by omega) (fun H' s' => ⟨SqL.of (Same.ways s' h35), SqL.of (Same.ways s' h5)⟩)
          (fun i => (((sd.2.zip (shift A.length (onward tags B sd.1)))[i]?).map fun z => vW (joinWay z.1 z.2)).getD .non) ?_ ?_
        · rintro j x H6 H7 kk hj s6 ⟨tp, x1, x2, rfl, ntp, rfl, e1, e2⟩ hk
          have g1 : sd.2[j]? = some (sd.2[j]'(by omega)) := List.getElem?_eq_getElem (by omega)
          have g2 : (shift A.length (onward tags B sd.1))[j]? = some ((shift A.length (onward tags B sd.1))[j]'(by omega)) := List.getElem?_eq_getElem (by omega)
          have gz : (sd.2.zip (shift A.length (onward tags B sd.1)))[j]? = some (sd.2[j]'(by omega), (shift A.length (onward tags B sd.1))[j]'(by omega)) := by
            rw [List.getElem?_zip_eq_some]
            exact ⟨g1, g2⟩
          have e1 : (vWs sd.2)[j]? = some x1 := e1
          have e2 : (vWs (shift A.length (onward tags B sd.1)))[j]? = some x2 := e2
          rw [vWs_get g1] at e1
          rw [vWs_get g2] at e2
          cases e1
          cases e2
          rw [gz] at hk
          generalize sd.2[j]'(by omega) = w1 at hk
          generalize (shift A.length (onward tags B sd.1))[j]'(by omega) = w2 at hk
          have s8 := Same.new (Same.refl H6) (o := .tup [vW w1, vW w2]) ntp
          have hk := hk _ s8
          refine ⟨tp, _, rfl, SqT.of upd_same, rfl, _, _, rfl, _, _, rfl, rfl, rfl, ?_⟩
          refine ⟨_, rfl, rfl, _, rfl, ?_⟩
          rw [vW_is]
          cases w1 with
          | none => exact iteT ⟨_, rfl, hk⟩
          | some m => exact iteF ⟨_, rfl, hk⟩
        · intro H6 s6 e6
          have w6 : WaysAt H6 D2 ((sd.2.zip (shift A.length (onward tags B sd.1))).map fun z => joinWay z.1 z.2) := by
            have el : tags.length = (sd.2.zip (shift A.length (onward tags B sd.1))).length := by rw [List.length_zip, hsl, hsh, Nat.min_self]
            rw [el, range_map_get _ (sd.2.zip (shift A.length (onward tags B sd.1))) (fun z => vW (joinWay z.1 z.2)) (fun i x hx => by rw [hx]; rfl)] at e6
            unfold WaysAt vWs
            rw [e6, List.map_map]
            rfl
          have s16 := (s14.trans s5).trans s6
          have hT6 := s6 _ _ hT5
          have h26 := Same.word s6 h25
          -- the new standing
          refine ⟨_, rfl, .inl ⟨rfl, _, SqL.of hT6⟩, ?_⟩
          refine ⟨_, rfl, _, rfl, _, _, _, _, rfl, rfl, SqL.of ((s5.trans s6) _ _ f1), atI_nat f3, _, _, _, _, rfl, rfl, SqT.of ((s5.trans s6) _ _ f4), rfl, ?_⟩
          refine ⟨_, rfl, _, rfl, _, rfl, p1, _, rfl, SqL.of h26, fun q7 n7 => ?_⟩
          rw [cut_drop, vS_drop]
          have s7 := same_new (o := .lst (vS (sd.1.drop (walk tags B sd.1).2))) n7
          have w7 : WordAt (upd H6 q7 (.lst (vS (sd.1.drop (walk tags B sd.1).2)))) q7 (sd.1.drop (walk tags B sd.1).2) := upd_same
          generalize upd H6 q7 (.lst (vS (sd.1.drop (walk tags B sd.1).2))) = H7 at s7 w7 ⊢
          have hB1 := lB _ (mem_of eZ1)
          refine ⟨_, _, _, _, rfl, rfl, Same.word ((s5.trans s6).trans s7) f5, w7, by rw [vS_len, vS_len, List.length_drop]; exact sz_le (by omega), fun q8 n8 => ?_⟩
          rw [vS_append]
          have s8 := same_new (o := .lst (vS ((stdOf B (walk tags B sd.1).1).1 ++ sd.1.drop (walk tags B sd.1).2))) n8
          have w8 : WordAt (upd H7 q8 (.lst (vS ((stdOf B (walk tags B sd.1).1).1 ++ sd.1.drop (walk tags B sd.1).2)))) q8 ((stdOf B (walk tags B sd.1).1).1 ++ sd.1.drop (walk tags B sd.1).2) := upd_same
          have w6 := Same.ways (s7.trans s8) w6
          have hT8 := (s7.trans s8) _ _ hT6
          have n8D : q8 ≠ D := (ne_of_none (s7 _ _ hT6) n8).symm
          have n2D : D2 ≠ D := (ne_of_none hT5 hD2).symm
          have s18 := s16.trans (s7.trans s8)
          generalize upd H7 q8 (.lst (vS ((stdOf B (walk tags B sd.1).1).1 ++ sd.1.drop (walk tags B sd.1).2))) = H8 at s8 w8 w6 hT8 s18 ⊢
          refine ⟨_, rfl, by show 2 ≤ sizeLine; decide, fun t9 n9 => ?_⟩
          have s9 := same_new (o := .tup [V.ref q8, V.ref D2]) n9
          have hT9 := s9 _ _ hT8
          have hst : StdD D (upd H8 t9 (.tup [V.ref q8, V.ref D2])) t9 (thenStd tags B A.length sd) := ⟨q8, D2, upd_same, by
            have e : (thenStd tags B A.length sd).1 = (stdOf B (walk tags B sd.1).1).1 ++ sd.1.drop (walk tags B sd.1).2 := by
              show wordOf B _ ++ _ = _
              rw [wordOf_std hw.1]
            rw [e]
            exact Same.word s9 w8, Same.ways s9 w6, n8D, n2D⟩
          refine ⟨D, _, _, rfl, rfl, hT9, by rw [List.length_map, htsl]; exact sz_lt (by omega), ?_⟩
          have hP9 : Paired (StdD D (upd H8 t9 (.tup [V.ref q8, V.ref D2]))) (ts ++ [t9]) ((A.map (thenStd tags B A.length)).take (i + 1)) := by
            rw [etk]
            refine Paired.snoc (L2.Paired.mapP hP fun t s h => ?_) hst
            exact (h.same ((((s3.trans s34).trans s5).trans s6).trans (s7.trans s8))).same s9
          refine ⟨_, _, _, _, _, _, ts ++ [t9], rfl, Same.mut (s18.trans s9) hD, ?_, L2.Paired.mapP hP9 fun t s h => h.upd hT9⟩
          rw [upd_same, List.map_append]
          rfl
    · rintro σ H1 ⟨v4, v5, v6, v7, v8, v9, ts, rfl, s1, hT, hP⟩
      rw [List.take_of_length_le (by rw [List.length_map]; exact Nat.le_refl _)] at hP
      refine ⟨_, rfl, _, rfl, ⟨_, SqL.of (s1 _ _ hvB)⟩, ?_⟩
      refine for_it (walk_listF (K := K) (p := c) (F := B)) (fun i σ H' => ∃ (v4 v5 v6 v7 v8 v9 : Option V) (ts : List Addr), σ = [some (.ref a), some (.ref b), some (.ref c), some (.ref D), v4, v5, v6, v7, v8, v9, none, none] ∧ Same H H' ∧ H' D = some (.lst (ts.map V.ref)) ∧ Paired (StdD D H') ts (A.map (thenStd tags B A.length) ++ (B.map fun s => (s.1, shift A.length s.2)).take i))
        ⟨_, _, _, _, _, _, ts, rfl, s1, hT, by rw [List.take_zero, List.append_nil]; exact hP⟩ (fun i σ H' _ ⟨_, _, _, _, _, _, _, _, s', _⟩ => Same.form s' hB) ?_ ?_
      · rintro i x σ H2 H3 hi ⟨v4, v5, v6, v7, v8, v9, ts, rfl, s2, hT, hP⟩ ⟨sd, t, p1, p2, hs, rfl, rfl, h1, h2, h3⟩
        have hsl := gB.len sd (mem_of hs)
        have htsl : ts.length = A.length + i := by rw [paired_len hP, List.length_append, List.length_map, List.length_take, List.length_map]; omega
        have hApos := gA.pos
        have etk : A.map (thenStd tags B A.length) ++ (B.map fun s => (s.1, shift A.length s.2)).take (i + 1) = (A.map (thenStd tags B A.length) ++ (B.map fun s => (s.1, shift A.length s.2)).take i) ++ [(sd.1, shift A.length sd.2)] := by
          rw [List.take_succ, List.getElem?_map, hs, List.append_assoc]
          rfl
        have h2D : p1 ≠ D := fun e => by
          have h2 : H3 p1 = some (.lst (vS sd.1)) := h2
          rw [e, hT] at h2
          have h4 := HO.lst.inj (Option.some.inj h2)
          cases ts with
          | nil =>
            have : (0 : Nat) = A.length + i := htsl
            omega
          | cons z zs =>
            cases hsd : sd.1 with
            | nil =>
              rw [hsd] at h4
              cases h4
            | cons t2 w2 =>
              rw [hsd] at h4
              cases (List.cons.inj h4).1
        refine ⟨t, _, rfl, SqT.of h1, rfl, _, _, rfl, _, _, rfl, rfl, ?_⟩
        refine ⟨_, rfl, .inl ⟨rfl, _, SqL.of hT⟩, _, rfl, _, rfl, _, rfl, _, _, rfl, .inl (SqL.of (s2 _ _ hvA)), ?_⟩
        rw [hlA]
        refine ⟨p2, sd.2, A.length, rfl, h3, by omega, fun r5 H5 s5 n5 h5 => ⟨by show 2 ≤ sizeLine; decide, fun t9 n9 => ?_⟩⟩
        have hT5 := s5 _ _ hT
        have s9 := same_new (o := .tup [V.ref p1, V.ref r5]) n9
        have hT9 := s9 _ _ hT5
        have n5D : r5 ≠ D := (ne_of_none hT n5).symm
        have hst : StdD D (upd H5 t9 (.tup [V.ref p1, V.ref r5])) t9 (sd.1, shift A.length sd.2) := ⟨p1, r5, upd_same, Same.word s9 (Same.word s5 h2), Same.ways s9 h5, h2D, n5D⟩
        refine ⟨D, _, _, rfl, rfl, hT9, by rw [List.length_map, htsl]; exact sz_lt (by omega), ?_⟩
        have hP9 : Paired (StdD D (upd H5 t9 (.tup [V.ref p1, V.ref r5]))) (ts ++ [t9]) (A.map (thenStd tags B A.length) ++ (B.map fun s => (s.1, shift A.length s.2)).take (i + 1)) := by
          rw [etk]
          exact Paired.snoc (L2.Paired.mapP hP fun t s h => (h.same s5).same s9) hst
        refine ⟨_, _, _, _, _, _, ts ++ [t9], rfl, Same.mut (s2.trans (s5.trans s9)) hD, ?_, L2.Paired.mapP hP9 fun t s h => h.upd hT9⟩
        rw [upd_same, List.map_append]
        rfl
      · rintro σ H2 ⟨v4, v5, v6, v7, v8, v9, ts, rfl, s2, hT, hP⟩
        rw [List.take_of_length_le (by rw [List.length_map]; exact Nat.le_refl _)] at hP
        have hF : FormAt H2 D (thenForm tags A B) := stdsD_form hP hT
        have gA' : GoodW tags A := ⟨gA, wA.sub⟩
        have wT : WordsOk tags (thenForm tags A B) := ⟨wA.txt, thenForm_sub wA.sub wB.sub, fun s hs => by have := thenForm_words lA lB s hs; omega⟩
        refine ⟨_, rfl, _, rfl, a, D, tags, _, rfl, Same.word s2 ha, hF, thenForm_good gA' gB hsz, wT, htl, (QB.Ext.of s2).2 tb, fun p L H3 e3 t3 n3 => ?_⟩
        exact k p L H3 ((QB.Ext.of s2).trans e3) t3 (n3.old (QB.Ext.of (T := Tof X) s2))
def spSmall : Sp := fun vs H Q _ => ∃ (b : Addr) (F : Form), vs = [.ref b] ∧ FormAt H b F ∧ F.length ≤ 200 ∧ (∀ s ∈ F, s.1.length ≤ 200) ∧ ∀ H', Same H H' → Q (.ref b) H'
theorem ok_small_form (X : TX K mg) : FnOk P w K mg base CX0 3 X.d_small_form.a X.d_small_form.fd ["form"] spSmall := by
  have nd := sc_small_form.nd
  refine X.d_small_form.F.ok sc_small_form (fun vs H Q E h => ?_) (fun cdv A outer s H vs Q E hr h => ?_)
  · obtain ⟨b, F, rfl, _⟩ := h
    rfl
  · obtain ⟨b, F, rfl, hF, hl, hw, k⟩ := h
    refine ⟨_, (pss_cons (ps_if (PW.pt (pw_or (pt_cmpR op_gt (pe_callB (QB.call_lenK K) (by rfl) X.n_len PySem.boot_len (pa_cons (pv 0) pa_nil)) (pe_gc rfl X.c_LARGEST) (nomark _)) (pw_or1 (pt_val (pe_callB (QB.cr_anyK K rfl) (by rfl) X.n_any QB.bo_any (pa_cons (pe_lc (own := [("word", 1), ("_", 2)]) (g := gTup K 2 (gCons (gName 1) (gCons (gName 2) (gNil)))) (tt := tYes) rfl nd (QB.pi_listK K (pv 0)) (blkOk_by (N := ["form", "word", "_"]) (sc := defScope s_small_form) (by decide +kernel)) (fun _ _ _ _ _ => pg_tup (by rfl) (pgs_cons (pg_name (i := 1) nd rfl (Or.inl rfl)) (pgs_cons (pg_name (i := 2) nd rfl (Or.inl rfl)) (pgs_nil)))) (fun _ _ _ _ _ => pts_nil) (fun _ _ _ _ _ => (pe_cmpR op_gt (pe_callB (QB.call_lenK K) (by rfl) X.n_len PySem.boot_len (pa_cons (pv 1) pa_nil)) (pe_gc rfl X.c_LARGEST) (nomark _)))) pa_nil)))))) (pss_one ps_never) pss_nil) (pss_one (ps_ret (pv 0)))), ?_⟩
    try dsimp only [Cx.nox, Cx.wish, cxOf]
    obtain ⟨vs, hv, hvl⟩ := FormAt.lst hF
    refine ⟨_, rfl, _, _, rfl, .inl (SqL.of hv), _, _, rfl, rfl, _, rfl, ?_⟩
    rw [decide_eq_false (by omega)]
    refine iteF ?_
    refine ⟨_, rfl, _, rfl, ⟨_, SqL.of hv⟩, fun D hD => ?_⟩
    refine lc_map (walk_listF (K := K) (p := b) (F := F)) hD (by omega) (fun H' s' => Same.form s' hF) (fun i => .bl false) ?_ ?_
    · rintro i x H1 H2 kk hi s1 ⟨sd, t, p1, p2, hs, rfl, rfl, h1, h2, h3⟩ hk
      have := hw sd (mem_of hs)
      refine ⟨t, _, rfl, SqT.of h1, rfl, _, _, rfl, _, _, rfl, rfl, rfl, ?_⟩
      refine ⟨_, rfl, _, _, rfl, .inl (SqL.of h2), _, _, rfl, rfl, ?_⟩
      show kk (.bl (decide ((200 : Int) < ((vS sd.1).length : Int)))) H2
      rw [decide_eq_false (by rw [vS_len]; omega)]
      exact hk _ (Same.refl _)
    · intro H1 s1 e
      have e2 : (List.range F.length).map (fun _ => V.bl false) = (List.replicate F.length false).map V.bl := by
        rw [List.map_replicate, List.map_const', List.length_range]
      refine ⟨_, List.replicate F.length false, rfl, SqL.of (by rw [← e2]; exact e), ?_⟩
      have e3 : (List.replicate F.length false).any id = false := by
        rw [List.any_eq_false]
        intro b hb
        rw [List.eq_of_mem_replicate hb]
        decide
      rw [e3]
      refine ⟨_, rfl, iteF ?_⟩
      exact ⟨_, rfl, k H1 s1⟩
def spSameTags (C : Addr) : Sp := fun vs H Q _ => ∃ (e f : Addr) (tags : Word) (G G2 : Form), vs = [.ref e, .ref f] ∧ EatAt C H e tags G ∧ EatAt C H f tags G2 ∧ OkWord tags ∧ ∀ H', Same H H' → Q .non H'
theorem ok_check_same_tags (X : TX K mg) : FnOk P w K mg base CX0 2 X.d_check_same_tags.a X.d_check_same_tags.fd ["one", "other"] (spSameTags X.c_Eater) := by
  have nd := sc_check_same_tags.nd
  refine X.d_check_same_tags.F.ok sc_check_same_tags (fun vs H Q E h => ?_) (fun cdv A outer s H vs Q E hr h => ?_)
  · obtain ⟨e, f, tags, G, G2, rfl, _⟩ := h
    rfl
  · obtain ⟨e, f, tags, G, G2, rfl, he, hf, ok, k⟩ := h
    refine ⟨_, (pss_one (ps_if (PW.pt (pw_or (pt_not (pt_val (pe_callB (QB.call_isiK K) (by rfl) X.n_isinstance QB.bo_isinstance (pa_cons (pv 1) (pa_cons (pe_glob (v := .ref X.c_Eater) rfl X.m_Eater rfl) pa_nil))))) (pw_or1 (pt_cmpR (QB.op_neDK K hr.units) (pe_meth0 (pv 1) X.cl_Eater X.h_Eater_tags (ok_Eater_tags X) (hr.mono (by decide)) X.d_Eater_tags.b .nil pass0) (pe_meth0 (pv 0) X.cl_Eater X.h_Eater_tags (ok_Eater_tags X) (hr.mono (by decide)) X.d_Eater_tags.b .nil pass0) (nomark _))))) (pss_one ps_never) pss_nil)), ?_⟩
    try dsimp only [Cx.nox, Cx.wish, cxOf]
    obtain ⟨dx, a1, b1, g1, g2, g3⟩ := he
    obtain ⟨dx2, a2, b2, f1, f2, f3⟩ := hf
    refine ⟨_, rfl, ?_⟩
    dsimp only [tNil, tCons]
    refine ⟨_, _, _, _, true, rfl, .own _, .base (X.oc_Eater.ty X.cl_Eater f1), QO.OwnC.self, true, rfl, ?_⟩
    refine iteF ?_
    refine ⟨_, rfl, f, dx2, _, rfl, f1, rfl, ?_⟩
    refine ⟨f, tags, G2, rfl, ⟨dx2, a2, b2, f1, f2, f3⟩, fun p1 n1 => ?_⟩
    have s1 := same_new (o := .lst (vS tags)) n1
    have w1 : WordAt (upd H p1 (.lst (vS tags))) p1 tags := upd_same
    generalize upd H p1 (.lst (vS tags)) = H1 at s1 w1 ⊢
    refine ⟨_, rfl, e, dx, _, rfl, s1 _ _ g1, rfl, ?_⟩
    refine ⟨e, tags, G, rfl, ⟨dx, a1, b1, s1 _ _ g1, Same.word s1 g2, Same.form s1 g3⟩, fun p2 n2 => ?_⟩
    have s2 := same_new (o := .lst (vS tags)) n2
    have w2 : WordAt (upd H1 p2 (.lst (vS tags))) p2 tags := upd_same
    refine ne_wd (Same.word s2 w1) w2 ok ok ?_
    refine ⟨_, rfl, ?_⟩
    rw [decide_eq_true rfl]
    exact iteF (k _ (s1.trans s2))
end
end Law
end

section
set_option Elab.async false
set_option linter.all false
set_option maxRecDepth 100000
set_option maxHeartbeats 4000000
namespace Law
open PySem PySem.Spec PyProof.Rows L2 LamX QB QM
section
variable {P : Program} {w : World} {K : PySem.W.Frag} {mg : Str → Option Value} {base : Heap}
theorem plainOk {tags : Word} : FormOk tags [([], List.replicate tags.length none)] := by
  refine ⟨by show 1 ≤ 1; decide, by show 1 ≤ 30; decide, fun s hs => ?_⟩
  rw [List.mem_singleton.mp hs]
  exact ⟨Nat.zero_le _, (fun _ h => nomatch h), List.length_replicate, fun m hm => by cases List.eq_of_mem_replicate hm⟩
def spEaterOf (T : List (Addr × Str)) (C : Addr) : Sp := fun vs H Q _ => ∃ (a b : Addr) (tags : Word) (G : Form) (L : List Tri) (H0 : Hp), vs = [.ref a, .ref b] ∧ WordAt H a tags ∧ TagsOk tags ∧ NewF H0 H b L G ∧ QB.Ext T H0 H ∧ Tabs T H ∧
  ∀ (e dx a' : Addr) (H' : Hp), QB.Ext T H0 H' → Tabs T H' → EatN C H0 H' e dx a' b L tags G → Q (.ref e) H'
theorem ok_eater_of (X : TX K mg) (TB : LamX.TabB base mg X.lam_c X.lam_P) : FnOk P w K mg base CX0 7 X.d_eater_of.a X.d_eater_of.fd ["tags", "form"] (spEaterOf (Tof X) X.c_Eater) := by
  have nd := sc_eater_of.nd
  refine X.d_eater_of.F.ok sc_eater_of (fun vs H Q E h => ?_) (fun cdv A outer s H vs Q E hr h => ?_)
  · obtain ⟨a, b, tags, G, L, H0, rfl, _⟩ := h
    rfl
  · obtain ⟨a, b, tags, G, L, H0, rfl, ha, to, nF, e0, tb, k⟩ := h
    refine ⟨_, (pss_cons (ps_set (i := 2) nd rfl (Or.inl rfl) (pe_make X.mk_Eater (ok_Eater___init__ X TB) (hr.mono (by decide)) rfl X.m_Eater X.d_Eater___init__.b .nil pass0 (pa_cons (pv 0) (pa_cons (pe_lst (pa_cons (pe_tup (pa_cons (pe_lst pa_nil) (pa_cons (pe_call (ok_no_ways X) (hr.mono (by decide)) rfl X.d_no_ways.mg X.d_no_ways.F.kp X.d_no_ways.b .nil pass0 (pa_cons (pv 0) pa_nil)) pa_nil))) pa_nil)) pa_nil)))) (pss_cons (ps_fld (pv 2) (pv 1) rfl) (pss_one (ps_ret (pv 2))))), ?_⟩
    try dsimp only [Cx.nox, Cx.wish, cxOf]
    have htl := to.len
    refine ⟨_, rfl, by show 0 ≤ sizeLine; decide, fun x1 m1 => ?_⟩
    have s1 := same_new (o := .lst ([] : List V)) m1
    have r1 : WordAt (upd H x1 (.lst [])) x1 [] := upd_same
    generalize upd H x1 (.lst []) = H1 at s1 r1 ⊢
    refine ⟨_, rfl, a, tags, rfl, Same.word s1 ha, by omega, fun x3 H3 s3 n3 r3 => ?_⟩
    have s13 := s1.trans s3
    refine ⟨by show 2 ≤ sizeLine; decide, fun x4 m4 => ⟨by show 1 ≤ sizeLine; decide, fun x5 m5 => ?_⟩⟩
    have s5 : Same H3 (upd (upd H3 x4 (.tup [V.ref x1, V.ref x3])) x5 (.lst [V.ref x4])) := Same.new (same_new m4) m5
    have r4 : (upd (upd H3 x4 (.tup [V.ref x1, V.ref x3])) x5 (.lst [V.ref x4])) x4 = some (.tup [V.ref x1, V.ref x3]) := (upd_ne (ne_of_none upd_same m5)).trans upd_same
    have r5 : (upd (upd H3 x4 (.tup [V.ref x1, V.ref x3])) x5 (.lst [V.ref x4])) x5 = some (.lst [V.ref x4]) := upd_same
    have hF : FormAt (upd (upd H3 x4 (.tup [V.ref x1, V.ref x3])) x5 (.lst [V.ref x4])) x5 [([], List.replicate tags.length none)] := ⟨[x4], r5, .cons ⟨x1, x3, r4, Same.word s5 (Same.word s3 r1), Same.ways s5 r3⟩ .nil⟩
    generalize upd (upd H3 x4 (.tup [V.ref x1, V.ref x3])) x5 (.lst [V.ref x4]) = H5 at s5 hF ⊢
    have s15 := s13.trans s5
    refine fun e dx he hd hne => ?_
    have e5 := e0.trans (.of s15)
    have t5 := (QB.Ext.of s15).2 tb
    have sM : Same H5 (upd (upd H5 dx (.own e)) e (.ins X.c_Eater dx [])) := Same.new (same_new hd) ((upd_ne hne.symm).trans he)
    refine ⟨e, dx, a, x5, tags, _, H5, rfl, upd_same, Same.word sM (Same.word s15 ha), Same.form sM hF, to, plainOk, t5.ext sM, .of sM, .of he, fun a' b' M H6 e6 t6 n6 => ⟨rfl, ?_⟩⟩
    have n6' := n6.ins
    have nF6 := (nF.same s15).ext e6
    refine ⟨_, rfl, _, rfl, e, _, _, _, rfl, n6', X.cl_Eater, X.na_Eater__standings, by show (2 : Nat) < 1000; decide, ?_⟩
    refine ⟨_, rfl, ?_⟩
    have fe : Fresh H0 e := e5.fresh (.of he)
    have fa : Fresh H0 a' := e5.fresh n6.fa
    have e7 := (e5.trans e6).mut (o := .ins X.c_Eater dx (eatFs a' b)) fe n6'
    exact k e dx a' _ e7 (tabs_mut t6 n6' True.intro) ⟨upd_same, wordIns n6.tags n6', newIns nF6 n6', fe, fa⟩
def spThen (T : List (Addr × Str)) (C : Addr) : Sp := fun vs H Q _ => ∃ (e f : Addr) (tags : Word) (A B : Form), vs = [.ref e, .ref f] ∧ EatAt C H e tags A ∧ EatAt C H f tags B ∧ TagsOk tags ∧ Good tags A ∧ Good tags B ∧ WordsOk tags A ∧ WordsOk tags B ∧
  A.length + B.length ≤ 5000 ∧ (∀ s ∈ A, s.1.length ≤ 2000) ∧ (∀ s ∈ B, s.1.length ≤ 2000) ∧ (least tags (thenForm tags A B)).length ≤ 200 ∧ (∀ s ∈ least tags (thenForm tags A B), s.1.length ≤ 200) ∧ Tabs T H ∧
  ∀ (g dx a b : Addr) (L : List Tri) (H' : Hp), QB.Ext T H H' → Tabs T H' → EatN C H H' g dx a b L tags (least tags (thenForm tags A B)) → Q (.ref g) H'
theorem ok_Eater_then (X : TX K mg) (TB : LamX.TabB base mg X.lam_c X.lam_P) : FnOk P w K mg base CX0 8 X.d_Eater_then.a X.d_Eater_then.fd ["self", "other"] (spThen (Tof X) X.c_Eater) := by
  have nd := sc_Eater_then.nd
  refine X.d_Eater_then.F.ok sc_Eater_then (fun vs H Q E h => ?_) (fun cdv A outer s H vs Q E hr h => ?_)
  · obtain ⟨e, f, tags, A, B, rfl, _⟩ := h
    rfl
  · obtain ⟨e, f, tags, A, B, rfl, he, hf, to, gA, gB, wA, wB, hsz, lA, lB, l1, l2, tb, k⟩ := h
    refine ⟨_, (pss_cons (ps_expr (pe_call (ok_check_same_tags X) (hr.mono (by decide)) rfl X.d_check_same_tags.mg X.d_check_same_tags.F.kp X.d_check_same_tags.b .nil pass0 (pa_cons (pv 0) (pa_cons (pv 1) pa_nil)))) (pss_one (ps_ret (pe_call (ok_eater_of X TB) (hr.mono (by decide)) rfl X.d_eater_of.mg X.d_eater_of.F.kp X.d_eater_of.b .nil pass0 (pa_cons (QB.pe_fldK K (pv 0) rfl) (pa_cons (pe_call (ok_small_form X) (hr.mono (by decide)) rfl X.d_small_form.mg X.d_small_form.F.kp X.d_small_form.b .nil pass0 (pa_cons (pe_call (ok_one_behind_other X TB) (hr.mono (by decide)) rfl X.d_one_behind_other.mg X.d_one_behind_other.F.kp X.d_one_behind_other.b .nil pass0 (pa_cons (QB.pe_fldK K (pv 0) rfl) (pa_cons (QB.pe_fldK K (pv 0) rfl) (pa_cons (QB.pe_fldK K (pv 1) rfl) pa_nil)))) pa_nil)) pa_nil)))))), ?_⟩
    try dsimp only [Cx.nox, Cx.wish, cxOf]
    have htl := to.len
    refine ⟨_, rfl, _, rfl, e, f, tags, A, B, rfl, he, hf, fun t ht => (to.names t ht).txt, fun H1 s1 => ?_⟩
    obtain ⟨dx, a1, b1, g1, g2, g3⟩ := he.same s1
    obtain ⟨dx2, a2, b2, f1, f2, f3⟩ := hf.same s1
    refine ⟨_, rfl, e, _, _, _, _, rfl, g1, X.cl_Eater, X.na_Eater__tags, rfl, ?_⟩
    refine ⟨_, rfl, e, _, _, _, _, rfl, g1, X.cl_Eater, X.na_Eater__tags, rfl, ?_⟩
    refine ⟨_, rfl, e, _, _, _, _, rfl, g1, X.cl_Eater, X.na_Eater__standings, rfl, ?_⟩
    refine ⟨_, rfl, f, _, _, _, _, rfl, f1, X.cl_Eater, X.na_Eater__standings, rfl, ?_⟩
    refine ⟨a1, b1, b2, tags, A, B, rfl, g2, g3, f3, gA, gB, wA, wB, by omega, hsz, lA, lB, (QB.Ext.of s1).2 tb, fun p L H2 e2 t2 n2 => ?_⟩
    refine ⟨p, _, rfl, n2.form, l1, l2, fun H3 s3 => ?_⟩
    have e3 := (QB.Ext.of (T := Tof X) s1).trans (e2.trans (.of s3))
    refine ⟨a1, p, tags, _, L, H, rfl, Same.word s3 (e2.word g2), to, (n2.same s3).old (QB.Ext.of (T := Tof X) s1), e3, e3.2 tb, fun g dg a' H4 e4 t4 n4 => k g dg a' p L H4 e4 t4 n4⟩
end
end Law
end

section
set_option linter.all false
set_option autoImplicit false
/-! Qsame: what is alike has the same least form. -/
namespace QM
open PySem QB L2
section
variable {tags : List Str} {R S : Form}
/-- no way that does what stopping ahead of the tag does, as far as a settled standing goes -/
def NoIdle (tags : List Str) (R : Form) : Prop := ∀ i j t, i < R.length → t ∈ tags → way tags (stdOf R i) t = some j → (stdOf R j).1 = (stdOf R i).1 ++ [t] → allNone (stdOf R j) = false
theorem some_way (g : Good tags R) (nd : tags.Nodup) {m : Nat} (hm : m < R.length) (h : allNone (stdOf R m) = false) : ∃ t ∈ tags, ∃ n, way tags (stdOf R m) t = some n := by
  unfold allNone at h
  rw [List.all_eq_false] at h
  obtain ⟨x, hx, hn⟩ := h
  obtain ⟨k, hk, e⟩ := List.mem_iff_getElem.mp hx
  have hl := g.std_len hm
  refine ⟨tags[k]'(by omega), List.getElem_mem _, ?_⟩
  have e1 : (stdOf R m).2[k]? = some x := by rw [List.getElem?_eq_getElem hk, e]
  have e2 : way tags (stdOf R m) (tags[k]'(by omega)) = x := by
    unfold way ixOf
    rw [idxOf_nodup nd (by omega), e1]
    rfl
  rw [e2]
  cases x with
  | none => exact absurd rfl hn
  | some n => exact ⟨n, rfl⟩
theorem not_put (g : Good tags R) (nd : tags.Nodup) (no : NoIdle tags R) {B : Nat} (hB : ∀ s ∈ R, s.1.length ≤ B) : ∀ (d m : Nat), m < R.length → B + 1 ≤ (stdOf R m).1.length + d → allNone (stdOf R m) = false → ¬ ∀ r : Word, (∀ t ∈ r, t ∈ tags) → eff tags R m r = (stdOf R m).1 ++ r
  | 0, m, hm, hd, _, _ => by
    have := hB _ (mem_of (stdOf_get hm))
    omega
  | d + 1, m, hm, hd, ha, h => by
    obtain ⟨t, ht, n, hn⟩ := some_way g nd hm ha
    have hnl := g.std_to hm (way_mem hn)
    have key : ∀ r : Word, (∀ s ∈ r, s ∈ tags) → eff tags R n r = (stdOf R m).1 ++ t :: r := fun r hr => by
      have e := h (t :: r) (fun s hs => by
        rcases List.mem_cons.mp hs with h | h
        · rw [h]
          exact ht
        · exact hr s h)
      rw [eff_cons, wayAt_std hm, hn] at e
      exact e
    have ew : (stdOf R n).1 = (stdOf R m).1 ++ [t] := by
      have e := key [] (fun _ h => nomatch h)
      have e : wordOf R n = (stdOf R m).1 ++ [t] := e
      rw [wordOf_std hnl] at e
      exact e
    refine not_put g nd no hB d n hnl (by rw [ew, List.length_append]; show B + 1 ≤ _ + 1 + d; omega) (no m n t hm ht hn ew) fun r hr => ?_
    rw [key r hr, ew, List.append_assoc]
    rfl
theorem bound_words : ∀ (R : Form), ∃ B, ∀ s ∈ R, s.1.length ≤ B
  | [] => ⟨0, fun _ h => nomatch h⟩
  | s :: R => by
    obtain ⟨B, h⟩ := bound_words R
    refine ⟨max s.1.length B, fun x hx => ?_⟩
    rcases List.mem_cons.mp hx with h' | h'
    · rw [h']
      exact Nat.le_max_left _ _
    · exact Nat.le_trans (h x h') (Nat.le_max_right _ _)
/-- a way does something else than stopping -/
theorem way_works (g : Good tags R) (nd : tags.Nodup) (no : NoIdle tags R) {i j : Nat} {t : Str} (hi : i < R.length) (ht : t ∈ tags) (h : way tags (stdOf R i) t = some j) : ¬ ∀ r : Word, (∀ s ∈ r, s ∈ tags) → eff tags R j r = (stdOf R i).1 ++ t :: r := fun hp => by
  have hj := g.std_to hi (way_mem h)
  have ew : (stdOf R j).1 = (stdOf R i).1 ++ [t] := by
    have e := hp [] (fun _ h => nomatch h)
    have e : wordOf R j = (stdOf R i).1 ++ [t] := e
    rw [wordOf_std hj] at e
    exact e
  obtain ⟨B, hB⟩ := bound_words R
  refine not_put g nd no hB (B + 1) j hj (by omega) (no i j t hi ht h ew) fun r hr => ?_
  rw [hp r hr, ew, List.append_assoc]
  rfl
/-- two standings with the same rest map -/
def Twin (tags : List Str) (R S : Form) (i j : Nat) : Prop := i < R.length ∧ j < S.length ∧ ∀ r : Word, (∀ t ∈ r, t ∈ tags) → eff tags R i r = eff tags S j r
def TwinWay (tags : List Str) (R S : Form) : Option Nat → Option Nat → Prop
  | none, none => True
  | some i, some j => Twin tags R S i j
  | _, _ => False
theorem Twin.word {i j : Nat} (h : Twin tags R S i j) : (stdOf R i).1 = (stdOf S j).1 := by
  have e := h.2.2 [] (fun _ h => nomatch h)
  have e : wordOf R i = wordOf S j := e
  rw [wordOf_std h.1, wordOf_std h.2.1] at e
  exact e
theorem Twin.oneWay (gR : Good tags R) (gS : Good tags S) (nd : tags.Nodup) (nR : NoIdle tags R) (nS : NoIdle tags S) {i j : Nat} {t : Str} (ht : t ∈ tags) (h : Twin tags R S i j) : TwinWay tags R S (way tags (stdOf R i) t) (way tags (stdOf S j) t) := by
  have ew := h.word
  have step : ∀ r : Word, (∀ s ∈ r, s ∈ tags) → eff tags R i (t :: r) = eff tags S j (t :: r) := fun r hr => h.2.2 (t :: r) (fun s hs => by
    rcases List.mem_cons.mp hs with h | h
    · rw [h]
      exact ht
    · exact hr s h)
  cases e1 : way tags (stdOf R i) t with
  | none =>
    cases e2 : way tags (stdOf S j) t with
    | none => exact trivial
    | some n =>
      refine way_works gS nd nS h.2.1 ht e2 fun r hr => ?_
      have e := step r hr
      rw [eff_cons, eff_cons, wayAt_std h.1, wayAt_std h.2.1, e1, e2] at e
      have e : wordOf R i ++ t :: r = eff tags S n r := e
      rw [wordOf_std h.1, ew] at e
      exact e.symm
  | some m =>
    cases e2 : way tags (stdOf S j) t with
    | none =>
      refine way_works gR nd nR h.1 ht e1 fun r hr => ?_
      have e := step r hr
      rw [eff_cons, eff_cons, wayAt_std h.1, wayAt_std h.2.1, e1, e2] at e
      have e : eff tags R m r = wordOf S j ++ t :: r := e
      rw [wordOf_std h.2.1, ← ew] at e
      exact e
    | some n =>
      refine ⟨gR.std_to h.1 (way_mem e1), gS.std_to h.2.1 (way_mem e2), fun r hr => ?_⟩
      have e := step r hr
      rw [eff_cons, eff_cons, wayAt_std h.1, wayAt_std h.2.1, e1, e2] at e
      exact e
theorem paired_of {α β : Type} {P : α → β → Prop} : ∀ {l : List α} {m : List β}, l.length = m.length → (∀ (k : Nat) (a : α) (b : β), l[k]? = some a → m[k]? = some b → P a b) → Paired P l m
  | [], [], _, _ => .nil
  | [], _ :: _, h, _ => by cases h
  | _ :: _, [], h, _ => by cases h
  | a :: l, b :: m, h, f => .cons (f 0 a b rfl rfl) (paired_of (by simpa using h) fun k x y hx hy => f (k + 1) x y (by simpa using hx) (by simpa using hy))
theorem Twin.ways (gR : Good tags R) (gS : Good tags S) (nd : tags.Nodup) (nR : NoIdle tags R) (nS : NoIdle tags S) {i j : Nat} (h : Twin tags R S i j) : Paired (TwinWay tags R S) (stdOf R i).2 (stdOf S j).2 := by
  have l1 := gR.std_len h.1
  have l2 := gS.std_len h.2.1
  refine paired_of (by rw [l1, l2]) fun k x y hx hy => ?_
  have hk := (List.getElem?_eq_some_iff.mp hx).1
  have e1 : way tags (stdOf R i) (tags[k]'(by omega)) = x := by
    unfold QM.way ixOf
    rw [idxOf_nodup nd (by omega), hx]
    rfl
  have e2 : way tags (stdOf S j) (tags[k]'(by omega)) = y := by
    unfold QM.way ixOf
    rw [idxOf_nodup nd (by omega), hy]
    rfl
  have := h.oneWay gR gS nd nR nS (t := tags[k]'(by omega)) (List.getElem_mem _)
  rw [e1, e2] at this
  exact this
theorem Twin.symm {i j : Nat} (h : Twin tags R S i j) : Twin tags S R j i := ⟨h.2.1, h.1, fun r hr => (h.2.2 r hr).symm⟩
theorem Twin.trans {Z : Form} {i j k : Nat} (h : Twin tags R S i j) (h' : Twin tags S Z j k) : Twin tags R Z i k := ⟨h.1, h'.2.1, fun r hr => (h.2.2 r hr).trans (h'.2.2 r hr)⟩
/-- the classes are those of the rest maps -/
theorem cls_twin (g : Good tags R) (nd : tags.Nodup) (no : NoIdle tags R) {i j : Nat} (hi : i < R.length) (hj : j < R.length) : clsOf (alike R) i = clsOf (alike R) j ↔ Twin tags R R i j := by
  constructor
  · exact fun h => ⟨hi, hj, fun r _ => (alike_stable g).eff g r i j hi hj h⟩
  · refine fun h => alike_coarse (E := Twin tags R R) (fun a b _ _ e => e.word) (fun cs r a b ha hb e => ?_) i j hi hj h
    have p := e.ways g g nd no no
    generalize (stdOf R a).2 = xs at p
    generalize (stdOf R b).2 = ys at p
    induction p with
    | nil => rfl
    | @cons x y l1 l2 h _ ih =>
      rw [List.map_cons, List.map_cons, ih]
      congr 1
      cases x with
      | none =>
        cases y with
        | none => rfl
        | some _ => exact h.elim
      | some m =>
        cases y with
        | none => exact h.elim
        | some n => exact congrArg some (r m n h.1 h.2.1 h)
section
variable (gR : Good tags R) (gS : Good tags S) (nd : tags.Nodup) (nR : NoIdle tags R) (nS : NoIdle tags S)
include gR gS nd nR nS
theorem twin_cls {a b : Nat} {a' b' : Nat} (h : Twin tags R S a a') (h' : Twin tags R S b b') : clsOf (alike R) a = clsOf (alike R) b ↔ clsOf (alike S) a' = clsOf (alike S) b' := by
  rw [cls_twin gR nd nR h.1 h'.1, cls_twin gS nd nS h.2.1 h'.2.1]
  exact ⟨fun e => (h.symm.trans e).trans h', fun e => (h.trans e).trans h'.symm⟩
theorem twin_mem {met met' : List Nat} (p : Paired (Twin tags R S) met met') {n n' : Nat} (h : Twin tags R S n n') : clsOf (alike R) n ∈ met.map (clsOf (alike R)) ↔ clsOf (alike S) n' ∈ met'.map (clsOf (alike S)) := by
  induction p with
  | nil => simp
  | cons q _ ih => rw [List.map_cons, List.map_cons, List.mem_cons, List.mem_cons, ih, twin_cls gR gS nd nR nS h q]
theorem twin_idx {met met' : List Nat} (p : Paired (Twin tags R S) met met') {n n' : Nat} (h : Twin tags R S n n') : (met.map (clsOf (alike R))).idxOf (clsOf (alike R) n) = (met'.map (clsOf (alike S))).idxOf (clsOf (alike S) n') := by
  induction p with
  | nil => rfl
  | @cons x y l1 l2 q _ ih =>
    rw [List.map_cons, List.map_cons, List.idxOf_cons, List.idxOf_cons, ih]
    have e := twin_cls gR gS nd nR nS q h
    by_cases hc : clsOf (alike R) x = clsOf (alike R) n
    · have hc' := e.mp hc
      simp [hc, hc']
    · have hc' : ¬ clsOf (alike S) y = clsOf (alike S) n' := fun z => hc (e.mpr z)
      have b1 : (clsOf (alike R) x == clsOf (alike R) n) = false := by simpa using hc
      have b2 : (clsOf (alike S) y == clsOf (alike S) n') = false := by simpa using hc'
      rw [b1, b2]
theorem twin_visit {met met' : List Nat} (p : Paired (Twin tags R S) met met') {x y : Option Nat} (h : TwinWay tags R S x y) : Paired (Twin tags R S) (visit (alike R) met x) (visit (alike S) met' y) := by
  cases x with
  | none =>
    cases y with
    | none => exact p
    | some _ => exact h.elim
  | some n =>
    cases y with
    | none => exact h.elim
    | some n' =>
      have e := twin_mem gR gS nd nR nS p h
      show Paired (Twin tags R S) (if clsOf (alike R) n ∈ met.map (clsOf (alike R)) then met else met ++ [n]) (if clsOf (alike S) n' ∈ met'.map (clsOf (alike S)) then met' else met' ++ [n'])
      by_cases hc : clsOf (alike R) n ∈ met.map (clsOf (alike R))
      · rw [if_pos hc, if_pos (e.mp hc)]
        exact p
      · rw [if_neg hc, if_neg fun z => hc (e.mpr z)]
        exact Paired.snoc p h
theorem twin_visitAll {ws ws' : Ways} (q : Paired (TwinWay tags R S) ws ws') : ∀ {met met' : List Nat}, Paired (Twin tags R S) met met' → Paired (Twin tags R S) (visitAll (alike R) met ws) (visitAll (alike S) met' ws') := by
  induction q with
  | nil => exact fun p => p
  | cons h _ ih => exact fun p => ih (twin_visit gR gS nd nR nS p h)
theorem twin_std {met met' : List Nat} (p : Paired (Twin tags R S) met met') {i j : Nat} (h : Twin tags R S i j) : newStd (alike R) met (stdOf R i) = newStd (alike S) met' (stdOf S j) := by
  unfold newStd
  rw [h.word]
  congr 1
  have q := h.ways gR gS nd nR nS
  generalize (stdOf R i).2 = xs at q
  generalize (stdOf S j).2 = ys at q
  induction q with
  | nil => rfl
  | @cons x y l1 l2 h _ ih =>
    rw [List.map_cons, List.map_cons, ih]
    congr 1
    cases x with
    | none =>
      cases y with
      | none => rfl
      | some _ => exact h.elim
    | some m =>
      cases y with
      | none => exact h.elim
      | some n => exact congrArg some (twin_idx gR gS nd nR nS p h)
theorem twin_loop : ∀ (f f' : Nat) (met met' : List Nat) (told : Form), Paired (Twin tags R S) met met' → Met R (alike R) met → Met S (alike S) met' → told.length ≤ met.length → R.length + 1 ≤ told.length + f → S.length + 1 ≤ told.length + f' → orderLoop R (alike R) f met told = orderLoop S (alike S) f' met' told
  | 0, f', met, met', told, p, M, M', hl, h1, h2 => by
    have := M.len
    omega
  | f + 1, 0, met, met', told, p, M, M', hl, h1, h2 => by
    have e := Paired.length p
    have := M'.len
    omega
  | f + 1, f' + 1, met, met', told, p, M, M', hl, h1, h2 => by
    have e := Paired.length p
    unfold orderLoop
    by_cases hlt : told.length < met.length
    · rw [if_pos hlt, if_pos (by omega)]
      have g1 : met[told.length]? = some (met.getD told.length 0) := by
        rw [List.getD_eq_getElem?_getD, List.getElem?_eq_getElem hlt]
        rfl
      obtain ⟨y, hy, ht⟩ := paired_get' p g1
      have g2 : met'.getD told.length 0 = y := by
        rw [List.getD_eq_getElem?_getD, hy]
        rfl
      rw [g2]
      generalize met.getD told.length 0 = x at ht
      have q := ht.ways gR gS nd nR nS
      have p2 := twin_visitAll gR gS nd nR nS q p
      have hs := twin_std gR gS nd nR nS p2 ht
      have M2 := M.visitAll (ws := (stdOf R x).2) fun n hn => gR.std_to ht.1 hn
      have M2' := M'.visitAll (ws := (stdOf S y).2) fun n hn => gS.std_to ht.2.1 hn
      rw [hs]
      refine twin_loop f f' _ _ _ p2 M2 M2' ?_ (by rw [List.length_append]; show _ ≤ told.length + 1 + f; omega) (by rw [List.length_append]; show _ ≤ told.length + 1 + f'; omega)
      obtain ⟨tl, ht2⟩ := visitAll_pre (alike R) (stdOf R x).2 met
      rw [ht2, List.length_append, List.length_append]
      show told.length + 1 ≤ _
      omega
    · rw [if_neg hlt, if_neg (by omega)]
theorem twin_order (h : Twin tags R S 0 0) : inOrder R (alike R) = inOrder S (alike S) := by
  refine twin_loop gR gS nd nR nS _ _ _ _ _ (.cons h .nil) ⟨by simp, fun m hm => by rw [List.mem_singleton.mp hm]; exact h.1⟩ ⟨by simp, fun m hm => by rw [List.mem_singleton.mp hm]; exact h.2.1⟩ (Nat.zero_le _) ?_ ?_
  · show _ ≤ 0 + (R.length + 1)
    omega
  · show _ ≤ 0 + (S.length + 1)
    omega
end
/-- what is alike has the same least form -/
theorem least_same {F G : Form} (gF : Good tags F) (gG : Good tags G) (nd : tags.Nodup) (h : ∀ r : Word, (∀ t ∈ r, t ∈ tags) → make tags F r = make tags G r) : least tags F = least tags G := by
  have nF : NoIdle tags (least tags F) := fun i j t hi ht hw e => least_none gF hi ht hw e
  have nG : NoIdle tags (least tags G) := fun i j t hi ht hw e => least_none gG hi ht hw e
  have e1 : inOrder (least tags F) (alike (least tags F)) = least tags F := inOrder_again (needless_good gF)
  have e2 : inOrder (least tags G) (alike (least tags G)) = least tags G := inOrder_again (needless_good gG)
  rw [← e1, ← e2]
  refine twin_order (least_good gF) (least_good gG) nd nF nG ⟨(least_good gF).pos, (least_good gG).pos, fun r hr => ?_⟩
  rw [least_eff gF hr, least_eff gG hr, ← make_eff, ← make_eff]
  exact h r hr
end
end QM
end

section
set_option Elab.async false
set_option linter.all false
set_option maxRecDepth 100000
set_option maxHeartbeats 4000000
namespace Law
open PySem PySem.Spec PyProof.Rows L2 LamX QB QM
/-! powers -/
def pw (tags : Word) (A : Form) : Nat → Form
  | 0 => least tags [([], List.replicate tags.length none)]
  | n + 1 => least tags (thenForm tags (pw tags A n) A)
/-- an eater's form that is small enough for all its powers -/
structure Small (tags : Word) (A : Form) : Prop where
  good : Good tags A
  words : WordsOk tags A
  len : A.length ≤ 21
  wl : ∀ s ∈ A, s.1.length ≤ 21
structure PwOk (tags : Word) (A : Form) (n : Nat) : Prop where
  good : Good tags (pw tags A n)
  words : WordsOk tags (pw tags A n)
  len : (pw tags A n).length ≤ 1 + n * 21
  wl : ∀ s ∈ pw tags A n, s.1.length ≤ n * 21
theorem pw_step {tags : Word} {A B : Form} (gA : Good tags A) (wA : WordsOk tags A) (gB : Good tags B) (wB : WordsOk tags B) {a b c d : Nat} (lA : A.length ≤ a) (lB : B.length ≤ b) (zA : ∀ s ∈ A, s.1.length ≤ c) (zB : ∀ s ∈ B, s.1.length ≤ d) (h1 : a + b ≤ 5000) (h2 : c + d ≤ 5000) :
    Good tags (thenForm tags A B) ∧ Good tags (least tags (thenForm tags A B)) ∧ WordsOk tags (least tags (thenForm tags A B)) ∧ (least tags (thenForm tags A B)).length ≤ a + b ∧ ∀ s ∈ least tags (thenForm tags A B), s.1.length ≤ c + d := by
  have gT := thenForm_good ⟨gA, wA.sub⟩ gB (by omega)
  have sT := thenForm_sub wA.sub wB.sub
  have zT : ∀ s ∈ least tags (thenForm tags A B), s.1.length ≤ c + d := fun s hs => by
    obtain ⟨s', h1, h2⟩ := least_word gT hs
    rw [h2]
    exact thenForm_words zA zB s' h1
  refine ⟨gT, least_good gT, ⟨wA.txt, fun s hs => ?_, fun s hs => by have := zT s hs; omega⟩, ?_, zT⟩
  · obtain ⟨s', h1, h2⟩ := least_word gT hs
    rw [h2]
    exact sT s' h1
  · have := least_len gT
    rw [thenForm_len] at this
    omega
theorem plain_words {tags : Word} (to : TagsOk tags) : WordsOk tags (least tags [([], List.replicate tags.length none)]) := by
  refine ⟨fun x hx => (to.names x hx).txt, fun s hs t ht => ?_, fun s hs => ?_⟩
  · obtain ⟨s', h1, h2⟩ := least_word (plainOk (tags := tags)).good hs
    rw [h2, List.mem_singleton.mp h1] at ht
    cases ht
  · obtain ⟨s', h1, h2⟩ := least_word (plainOk (tags := tags)).good hs
    rw [h2, List.mem_singleton.mp h1]
    exact Nat.zero_le _
theorem pwOk {tags : Word} {A : Form} (to : TagsOk tags) (S : Small tags A) : ∀ n, n ≤ 8 → PwOk tags A n
  | 0, _ => by
    refine ⟨least_good (plainOk (tags := tags)).good, plain_words to, ?_, fun s hs => ?_⟩
    · exact Nat.le_trans (least_len (plainOk (tags := tags)).good) (by show 1 ≤ 1 + 0 * 21; decide)
    · obtain ⟨s', h1, h2⟩ := least_word (plainOk (tags := tags)).good hs
      rw [h2, List.mem_singleton.mp h1]
      exact Nat.zero_le _
  | n + 1, h => by
    have i := pwOk to S n (by omega)
    obtain ⟨_, h2, h3, h4, h5⟩ := pw_step i.good i.words S.good S.words i.len S.len i.wl S.wl (by omega) (by omega)
    exact ⟨h2, h3, by show (pw tags A (n + 1)).length ≤ _; have : (pw tags A (n + 1)).length ≤ 1 + n * 21 + 21 := h4; omega, fun s hs => by have := h5 s hs; omega⟩
def often (tags : Word) (A : Form) (n : Nat) (u : Word) : Word := (List.range n).foldl (fun w _ => make tags A w) u
theorem often_succ {tags : Word} {A : Form} {n : Nat} {u : Word} : often tags A (n + 1) u = make tags A (often tags A n u) := by
  unfold often
  rw [List.range_succ, List.foldl_append]
  rfl
theorem often_sub {tags : Word} {A : Form} (ok : ∀ u : Word, (∀ t ∈ u, t ∈ tags) → ∀ t ∈ make tags A u, t ∈ tags) {u : Word} (hu : ∀ t ∈ u, t ∈ tags) : ∀ n, ∀ t ∈ often tags A n u, t ∈ tags
  | 0 => hu
  | n + 1 => by
    rw [often_succ]
    exact ok _ (often_sub ok hu n)
theorem makes_sub {tags : Word} {A : Form} (ok : WordsOk tags A) : ∀ u : Word, (∀ t ∈ u, t ∈ tags) → ∀ t ∈ make tags A u, t ∈ tags := fun u h t ht => by
  unfold make at ht
  rcases List.mem_append.mp ht with h1 | h1
  · unfold wordOf at h1
    cases e : A[(walk tags A u).1]? with
    | none =>
      rw [e] at h1
      cases h1
    | some s =>
      rw [e] at h1
      exact ok.sub s (mem_of e) t h1
  · exact h t (List.mem_of_mem_drop h1)
theorem plain_make {tags u : Word} (hu : ∀ t ∈ u, t ∈ tags) : make tags (least tags [([], List.replicate tags.length none)]) u = u := by
  rw [least_make (plainOk (tags := tags)).good hu, make_eff]
  cases u with
  | nil => rfl
  | cons t u =>
    rw [eff_cons]
    have e : wayAt tags [([], List.replicate tags.length none)] 0 t = none := by
      rw [wayAt_std (by show 0 < 1; decide)]
      exact way_none fun x hx => List.eq_of_mem_replicate hx
    rw [e]
    rfl
theorem pw_make {tags : Word} {A : Form} (to : TagsOk tags) (S : Small tags A) {u : Word} (hu : ∀ t ∈ u, t ∈ tags) : ∀ n, n ≤ 8 → make tags (pw tags A n) u = often tags A n u
  | 0, _ => plain_make hu
  | n + 1, h => by
    have i := pwOk to S n (by omega)
    obtain ⟨gT, _⟩ := pw_step i.good i.words S.good S.words i.len S.len i.wl S.wl (by omega) (by omega)
    show make tags (least tags (thenForm tags (pw tags A n) A)) u = _
    rw [least_make gT hu, make_then ⟨i.good, i.words.sub⟩ S.good hu, pw_make to S hu n (by omega), often_succ]
theorem often_left {tags : Word} {A : Form} {u : Word} : ∀ n, often tags A n (make tags A u) = make tags A (often tags A n u)
  | 0 => rfl
  | n + 1 => by rw [often_succ, often_left n, often_succ]
/-- one more on the other side is the same -/
theorem pw_front {tags : Word} {A : Form} (to : TagsOk tags) (S : Small tags A) {n : Nat} (h : n ≤ 7) : least tags (thenForm tags A (pw tags A n)) = pw tags A (n + 1) := by
  have i := pwOk to S n (by omega)
  obtain ⟨g1, _⟩ := pw_step i.good i.words S.good S.words i.len S.len i.wl S.wl (by omega) (by omega)
  obtain ⟨g2, _⟩ := pw_step S.good S.words i.good i.words S.len i.len S.wl i.wl (by omega) (by omega)
  show _ = least tags (thenForm tags (pw tags A n) A)
  refine least_same g2 g1 to.nd fun r hr => ?_
  rw [make_then ⟨S.good, S.words.sub⟩ i.good hr, make_then ⟨i.good, i.words.sub⟩ S.good hr, pw_make to S (makes_sub S.words r hr) n (by omega), pw_make to S hr n (by omega), often_left]
/-! the least powers that are alike -/
structure IsRnd (E : Nat → Nat → Bool) (o : Option (Nat × Nat)) : Prop where
  no : o = none → ∀ f r, 1 ≤ r → f + r ≤ 12 → E f (f + r) = false
  yes : ∀ f r, o = some (f, r) → 1 ≤ r ∧ f + r ≤ 12 ∧ E f (f + r) = true ∧ ∀ f' r', (f' < f ∨ (f' = f ∧ r' < r)) → 1 ≤ r' → f' + r' ≤ 12 → E f' (f' + r') = false
theorem IsRnd.eq {E : Nat → Nat → Bool} {o o' : Option (Nat × Nat)} (h : IsRnd E o) (h' : IsRnd E o') : o = o' := by
  cases o with
  | none =>
    cases o' with
    | none => rfl
    | some z =>
      obtain ⟨f, r⟩ := z
      obtain ⟨a, b, c, _⟩ := h'.yes f r rfl
      rw [h.no rfl f r a b] at c
      cases c
  | some z =>
    obtain ⟨f, r⟩ := z
    obtain ⟨a, b, c, d⟩ := h.yes f r rfl
    cases o' with
    | none =>
      rw [h'.no rfl f r a b] at c
      cases c
    | some z' =>
      obtain ⟨f', r'⟩ := z'
      obtain ⟨a', b', c', d'⟩ := h'.yes f' r' rfl
      rcases Nat.lt_trichotomy f f' with h1 | h1 | h1
      · rw [d' f r (.inl h1) a b] at c
        cases c
      · subst h1
        rcases Nat.lt_trichotomy r r' with h2 | h2 | h2
        · rw [d' f r (.inr ⟨rfl, h2⟩) a b] at c
          cases c
        · rw [h2]
        · rw [d f r' (.inr ⟨rfl, h2⟩) a' b'] at c'
          cases c'
      · rw [d f' r' (.inl h1) a' b'] at c'
        cases c'
def RndV (H : Hp) (v : V) : Option (Nat × Nat) → Prop
  | none => v = .non
  | some (f, r) => ∃ t, v = .ref t ∧ H t = some (.tup [.int (f : Int), .int (r : Int)])
theorem RndV.same {H H' : Hp} {v : V} {o : Option (Nat × Nat)} (h : RndV H v o) (s : Same H H') : RndV H' v o := by
  cases o with
  | none => exact h
  | some z =>
    obtain ⟨t, h1, h2⟩ := h
    exact ⟨t, h1, s _ _ h2⟩
section
variable {P : Program} {w : World} {K : PySem.W.Frag} {mg : Str → Option Value} {base : Heap}
theorem pq_last {ys : List V} {v : V} : atI (ys ++ [v]) (-1) = some v := by
  have e : ixN (ys ++ [v]).length (-1) = some ys.length := by
    unfold ixN
    rw [if_neg (by decide), List.length_append, if_pos (by show -((ys.length + 1 : Nat) : Int) ≤ -1; omega)]
    congr 1
    show (-1 + ((ys.length + 1 : Nat) : Int)).toNat = ys.length
    omega
  unfold atI
  rw [e]
  simp
/-- a list of references is no list of an eater's -/
theorem pq_keep {C : Addr} {H : Hp} {z p g0 : Addr} {tags tags0 : Word} {G G0 : Form} {gs : List Addr} {xs : List V} (h : EatAt C H z tags G) (hp : H p = some (.lst (gs.map V.ref))) (hg : gs[0]? = some g0) (h0 : EatAt C H g0 tags0 G0) : EatAt C (upd H p (.lst xs)) z tags G := by
  obtain ⟨dx, a, b, h1, h2, ts, h3, h4⟩ := h
  obtain ⟨dx0, _, _, i1, _⟩ := h0
  cases gs with
  | nil => cases hg
  | cons g gs =>
    cases hg
    have hw : ∀ {x : Addr} {wd : Word}, WordAt H x wd → x ≠ p := fun {x wd} hx e => by
      have hx : H x = some (.lst (vS wd)) := hx
      rw [e, hp] at hx
      have hx := HO.lst.inj (Option.some.inj hx)
      cases wd with
      | nil => cases hx
      | cons t wd => cases (List.cons.inj hx).1
    have hws : ∀ {x : Addr} {ws : Ways}, WaysAt H x ws → x ≠ p := fun {x ws} hx e => by
      have hx : H x = some (.lst (vWs ws)) := hx
      rw [e, hp] at hx
      have hx := HO.lst.inj (Option.some.inj hx)
      cases ws with
      | nil => cases hx
      | cons t ws =>
        have := (List.cons.inj hx).1
        cases t with
        | none => cases this
        | some n => cases this
    have hb : b ≠ p := fun e => by
      rw [e, hp] at h3
      have h3 := HO.lst.inj (Option.some.inj h3)
      cases h4 with
      | nil => cases h3
      | cons q _ =>
        obtain ⟨x, y, q1, _⟩ := q
        have h5 := V.ref.inj (List.cons.inj h3).1
        rw [← h5, i1] at q1
        cases q1
    refine ⟨dx, a, b, (upd_ne (ne_of h1 hp (fun z => nomatch z))).trans h1, Eq.trans (upd_ne (hw h2)) h2, ts, (upd_ne hb).trans h3, L2.Paired.mapP h4 fun t s q => ?_⟩
    obtain ⟨x, y, q1, q2, q3⟩ := q
    exact ⟨x, y, (upd_ne (ne_of q1 hp (fun z => nomatch z))).trans q1, Eq.trans (upd_ne (hw q2)) q2, Eq.trans (upd_ne (hws q3)) q3⟩
/-- eaters with the powers up to n, in a list -/
def PwsAt (C : Addr) (H : Hp) (p : Addr) (gs : List Addr) (tags : Word) (A : Form) (n : Nat) : Prop := H p = some (.lst (gs.map V.ref)) ∧ gs.length = n ∧ ∀ k g, gs[k]? = some g → EatAt C H g tags (pw tags A k)
theorem PwsAt.ext {T : List (Addr × Str)} {C : Addr} {H H' : Hp} {p : Addr} {gs : List Addr} {tags : Word} {A : Form} {n : Nat} (h : PwsAt C H p gs tags A n) (x : QB.Ext T H H') : PwsAt C H' p gs tags A n := ⟨x.lst h.1, h.2.1, fun k g hg => (h.2.2 k g hg).ext x⟩
theorem pq_keepN {C : Addr} {H0 H : Hp} {z p g0 dx a b : Addr} {tags : Word} {G : Form} {L : List Tri} {gs : List Addr} {xs : List V} (n : EatN C H0 H z dx a b L tags G) (hp : H p = some (.lst (gs.map V.ref))) (hg : gs[0]? = some g0) (h0 : ∃ dx0 fs, H g0 = some (.ins C dx0 fs)) : EatN C H0 (upd H p (.lst xs)) z dx a b L tags G := by
  obtain ⟨dx0, fs, i1⟩ := h0
  cases gs with
  | nil => cases hg
  | cons g gs =>
    cases hg
    have hw : ∀ {x : Addr} {wd : Word}, WordAt H x wd → x ≠ p := fun {x wd} hx e => by
      have hx : H x = some (.lst (vS wd)) := hx
      rw [e, hp] at hx
      have hx := HO.lst.inj (Option.some.inj hx)
      cases wd with
      | nil => cases hx
      | cons t wd => cases (List.cons.inj hx).1
    have hws : ∀ {x : Addr} {ws : Ways}, WaysAt H x ws → x ≠ p := fun {x ws} hx e => by
      have hx : H x = some (.lst (vWs ws)) := hx
      rw [e, hp] at hx
      have hx := HO.lst.inj (Option.some.inj hx)
      cases ws with
      | nil => cases hx
      | cons t ws =>
        have := (List.cons.inj hx).1
        cases t with
        | none => cases this
        | some n => cases this
    have hb : b ≠ p := fun e => by
      have h3 := n.form.lst
      have ha := n.form.all.at_
      rw [e, hp] at h3
      have h3 := HO.lst.inj (Option.some.inj h3)
      cases ha with
      | nil => cases h3
      | @cons x y l1 l2 q _ =>
        have h5 := V.ref.inj (List.cons.inj h3).1
        have q1 := q.1
        rw [← h5, i1] at q1
        cases q1
    exact ⟨(upd_ne (ne_of n.ins hp (fun z => nomatch z))).trans n.ins, Eq.trans (upd_ne (hw n.tags)) n.tags, ⟨(upd_ne hb).trans n.form.lst, ⟨L2.Paired.mapP n.form.all.at_ fun x s q => ⟨(upd_ne (ne_of q.1 hp (fun z => nomatch z))).trans q.1, Eq.trans (upd_ne (hw q.2.1)) q.2.1, Eq.trans (upd_ne (hws q.2.2)) q.2.2⟩, n.form.all.new, n.form.all.nd⟩, n.form.new, n.form.out⟩, n.fe, n.fa⟩
theorem EatN.old {T : List (Addr × Str)} {C e dx a b : Addr} {H0 H1 H : Hp} {L : List Tri} {tags : Word} {G : Form} (n : EatN C H1 H e dx a b L tags G) (x : QB.Ext T H0 H1) : EatN C H0 H e dx a b L tags G := ⟨n.ins, n.tags, n.form.old x, x.fresh n.fe, x.fresh n.fa⟩
/-- the powers in a list, new -/
def PwsN (C : Addr) (H0 H : Hp) (p : Addr) (gs : List Addr) (tags : Word) (A : Form) (n : Nat) : Prop := H p = some (.lst (gs.map V.ref)) ∧ gs.length = n ∧ ∀ k g, gs[k]? = some g → ∃ dx a b L, EatN C H0 H g dx a b L tags (pw tags A k)
theorem PwsN.at_ {C : Addr} {H0 H : Hp} {p : Addr} {gs : List Addr} {tags : Word} {A : Form} {n : Nat} (h : PwsN C H0 H p gs tags A n) : PwsAt C H p gs tags A n := ⟨h.1, h.2.1, fun k g hg => by
  obtain ⟨_, _, _, _, q⟩ := h.2.2 k g hg
  exact q.at_⟩
def spPowers (T : List (Addr × Str)) (C : Addr) : Sp := fun vs H Q _ => ∃ (e : Addr) (tags : Word) (A : Form) (n : Nat), vs = [.ref e, .int (n : Int)] ∧ EatAt C H e tags A ∧ TagsOk tags ∧ Small tags A ∧ n ≤ 7 ∧ Tabs T H ∧
  ∀ (p : Addr) (gs : List Addr) (H' : Hp), QB.Ext T H H' → Tabs T H' → PwsN C H H' p gs tags A (n + 1) → Q (.ref p) H'
theorem ok_powers (X : TX K mg) (TB : LamX.TabB base mg X.lam_c X.lam_P) : FnOk P w K mg base CX0 9 X.d_powers.a X.d_powers.fd ["eater", "times"] (spPowers (Tof X) X.c_Eater) := by
  have nd := sc_powers.nd
  refine X.d_powers.F.ok sc_powers (fun vs H Q E h => ?_) (fun cdv A outer s H vs Q E hr h => ?_)
  · obtain ⟨e, tags, A, n, rfl, _⟩ := h
    rfl
  · obtain ⟨e, tags, A, n, rfl, he, to, S, hn, tb, k⟩ := h
    refine ⟨_, (pss_cons (ps_set (i := 2) nd rfl (Or.inl rfl) (pe_meth0 (pv 0) X.cl_Eater X.h_Eater_tags (ok_Eater_tags X) (hr.mono (by decide)) X.d_Eater_tags.b .nil pass0)) (pss_cons (ps_set (i := 3) nd rfl (Or.inl rfl) (pe_lst (pa_cons (pe_make X.mk_Eater (ok_Eater___init__ X TB) (hr.mono (by decide)) rfl X.m_Eater X.d_Eater___init__.b .nil pass0 (pa_cons (pv 2) (pa_cons (pe_lst (pa_cons (pe_tup (pa_cons (pe_lst pa_nil) (pa_cons (pe_call (ok_no_ways X) (hr.mono (by decide)) rfl X.d_no_ways.mg X.d_no_ways.F.kp X.d_no_ways.b .nil pass0 (pa_cons (pv 2) pa_nil)) pa_nil))) pa_nil)) pa_nil))) pa_nil))) (pss_cons (ps_for PassesOwn.never rfl (pi_range1 (by rfl) X.n_range (pa_cons (pv 1) pa_nil)) (pg_name (i := 4) nd rfl (Or.inl rfl)) (pss_one (ps_expr (QB.pe_bmK K PySem.F.plainAttrs_list PySem.F.slot_list_append PySem.F.type_list_append mt_append (pv 3) (pa_cons (pe_meth (pe_ix (QB.ix_listK K) (pv 3) (pe_un un_neg pe_int) (fun _ _ => rfl)) X.cl_Eater X.h_Eater_then (ok_Eater_then X TB) (hr.mono (by decide)) X.d_Eater_then.b .nil pass0 (pa_cons (pv 0) pa_nil)) pa_nil))))) (pss_one (ps_ret (pv 3)))))), ?_⟩
    try dsimp only [Cx.nox, Cx.wish, cxOf]
    have htl := to.len
    have he' := he
    obtain ⟨dx0, a0, b0, f1, f2, f3⟩ := he
    refine ⟨_, rfl, e, dx0, _, rfl, f1, rfl, ?_⟩
    refine ⟨e, tags, A, rfl, he', fun a na => ?_⟩
    have s1 := same_new (o := .lst (vS tags)) na
    have ha : WordAt (upd H a (.lst (vS tags))) a tags := upd_same
    generalize upd H a (.lst (vS tags)) = H1 at s1 ha ⊢
    refine ⟨_, rfl, by show 0 ≤ sizeLine; decide, fun x1 m1 => ?_⟩
    have s2 := same_new (o := .lst ([] : List V)) m1
    have r1 : WordAt (upd H1 x1 (.lst [])) x1 [] := upd_same
    generalize upd H1 x1 (.lst []) = H2 at s2 r1 ⊢
    refine ⟨_, rfl, a, tags, rfl, Same.word s2 ha, by omega, fun x3 H3 s3 n3 r3 => ?_⟩
    have s13 := s1.trans (s2.trans s3)
    refine ⟨by show 2 ≤ sizeLine; decide, fun x4 m4 => ⟨by show 1 ≤ sizeLine; decide, fun x5 m5 => ?_⟩⟩
    have s5 : Same H3 (upd (upd H3 x4 (.tup [V.ref x1, V.ref x3])) x5 (.lst [V.ref x4])) := Same.new (same_new m4) m5
    have r4 : (upd (upd H3 x4 (.tup [V.ref x1, V.ref x3])) x5 (.lst [V.ref x4])) x4 = some (.tup [V.ref x1, V.ref x3]) := (upd_ne (ne_of_none upd_same m5)).trans upd_same
    have r5 : (upd (upd H3 x4 (.tup [V.ref x1, V.ref x3])) x5 (.lst [V.ref x4])) x5 = some (.lst [V.ref x4]) := upd_same
    have hF : FormAt (upd (upd H3 x4 (.tup [V.ref x1, V.ref x3])) x5 (.lst [V.ref x4])) x5 [([], List.replicate tags.length none)] := ⟨[x4], r5, .cons ⟨x1, x3, r4, Same.word s5 (Same.word s3 r1), Same.ways s5 r3⟩ .nil⟩
    generalize upd (upd H3 x4 (.tup [V.ref x1, V.ref x3])) x5 (.lst [V.ref x4]) = H5 at s5 hF ⊢
    have s15 := s13.trans s5
    refine fun g dx hg hd hne => ?_
    have t5 := (QB.Ext.of s15).2 tb
    have sM : Same H5 (upd (upd H5 dx (.own g)) g (.ins X.c_Eater dx [])) := Same.new (same_new hd) ((upd_ne hne.symm).trans hg)
    refine ⟨g, dx, a, x5, tags, _, H5, rfl, upd_same, Same.word sM (Same.word (s2.trans (s3.trans s5)) ha), Same.form sM hF, to, plainOk, t5.ext sM, .of sM, .of hg, fun a' b' M H6 e6 t6 n6 => ⟨rfl, ?_⟩⟩
    have e06 := (QB.Ext.of (T := Tof X) s15).trans e6
    refine ⟨by show 1 ≤ sizeLine; decide, fun p hp => ?_⟩
    have s7 := same_new (o := .lst [V.ref g]) hp
    have np0 : Fresh H p := e06.free hp
    have e07 := e06.trans (.of s7)
    have ha7 : WordAt (upd H6 p (.lst [V.ref g])) a tags := Same.word s7 (e6.word (Same.word (s2.trans (s3.trans s5)) ha))
    have hP7 : PwsN X.c_Eater H (upd H6 p (.lst [V.ref g])) p [g] tags A 1 := ⟨upd_same, rfl, fun k z hz => by
      cases k with
      | zero =>
        cases hz
        exact ⟨_, _, _, _, (n6.ext (T := Tof X) (.of s7)).old (QB.Ext.of (T := Tof X) s15)⟩
      | succ k => simp at hz⟩
    have hpa : p ≠ a := fun z => by
      have := (ne_of_none (e6.word (Same.word (s2.trans (s3.trans s5)) ha)) hp)
      exact this z.symm
    generalize upd H6 p (.lst [V.ref g]) = H7 at s7 e07 ha7 hP7 ⊢
    refine ⟨_, rfl, (n : Int), rfl, by omega, by omega, ?_⟩
    refine for_it (walk_range (lo := 0) (n := n)) (fun i σ H' => ∃ (v4 : Option V) (gs : List Addr), σ = [some (.ref e), some (.int (n : Int)), some (.ref a), some (.ref p), v4] ∧ QB.Ext (Tof X) H H' ∧ PwsN X.c_Eater H H' p gs tags A (i + 1))
      ⟨_, [g], rfl, e07, hP7⟩ (fun _ _ _ _ _ => True.intro) ?_ ?_
    · rintro i x σ H8 H9 hi ⟨v4, gs, rfl, e8, hP⟩ ⟨rfl, rfl⟩
      obtain ⟨hl, hgl, hall⟩ := hP
      have gi : gs[i]? = some (gs[i]'(by omega)) := List.getElem?_eq_getElem (by omega)
      generalize gs[i]'(by omega) = g2 at gi
      obtain ⟨_, _, _, _, hEN⟩ := hall i g2 gi
      have hE := hEN.at_
      have hE' := hE
      obtain ⟨dxg, ag, bg, i1, i2, i3⟩ := hE
      have po := pwOk to S i (by omega)
      obtain ⟨gT, hT2, hT3, hT4, hT5⟩ := pw_step po.good po.words S.good S.words po.len S.len po.wl S.wl (by omega) (by omega)
      have hSl := S.len
      have hpl := po.len
      have elast : atI (gs.map V.ref) (-1) = some (.ref g2) := by
        have hne : gs = gs.take i ++ [g2] := by
          have : gs.take (i + 1) = gs := List.take_of_length_le (by omega)
          exact this.symm.trans (by rw [List.take_succ, gi]; rfl)
        rw [hne, List.map_append]
        exact pq_last
      refine ⟨_, rfl, .inl ⟨rfl, _, SqL.of hl⟩, _, rfl, _, rfl, p, _, _, _, rfl, rfl, SqL.of hl, elast, ?_⟩
      refine ⟨g2, dxg, _, rfl, i1, rfl, _, rfl, ?_⟩
      refine ⟨g2, e, tags, pw tags A i, A, rfl, hE', he'.ext e8, to, po.good, S.good, po.words, S.words, by omega, fun s hs => by have := po.wl s hs; omega, fun s hs => by have := S.wl s hs; omega, by omega, fun s hs => by have := hT5 s hs; omega, e8.2 tb, fun g3 dx3 a3 b3 L3 H10 e10 t10 n10 => ?_⟩
      have hl10 := e10.lst hl
      refine ⟨p, _, _, rfl, rfl, hl10, by rw [List.length_map]; exact sz_lt (by omega), ?_⟩
      obtain ⟨d0, a0', b0', L0', hN0⟩ := hall 0 _ (List.getElem?_eq_getElem (by omega))
      have keep : ∀ {z dx a b : Addr} {L : List Tri} {G : Form}, EatN X.c_Eater H H10 z dx a b L tags G → EatN X.c_Eater H (upd H10 p (.lst (gs.map V.ref ++ [V.ref g3]))) z dx a b L tags G := fun hz => pq_keepN hz hl10 (List.getElem?_eq_getElem (by omega)) ⟨_, _, (hN0.ext e10).ins⟩
      refine ⟨_, gs ++ [g3], rfl, (e8.trans e10).mut np0 hl10, by rw [upd_same, List.map_append]; rfl, by rw [List.length_append]; show gs.length + 1 = _; omega, fun k z hz => ?_⟩
      by_cases hk : k < gs.length
      · rw [List.getElem?_append_left hk] at hz
        obtain ⟨_, _, _, _, q⟩ := hall k z hz
        exact ⟨_, _, _, _, keep (q.ext e10)⟩
      · rw [List.getElem?_append_right (by omega)] at hz
        have hk0 : k - gs.length = 0 := by
          cases hkk : k - gs.length with
          | zero => rfl
          | succ m =>
            rw [hkk] at hz
            simp at hz
        rw [hk0] at hz
        cases hz
        have : k = i + 1 := by omega
        subst this
        exact ⟨_, _, _, _, keep (n10.old e8)⟩
    · rintro σ H8 ⟨v4, gs, rfl, e8, hP⟩
      exact ⟨_, rfl, k p gs H8 e8 (e8.2 tb) hP⟩
def spCheckNumber : Sp := fun vs H Q _ => ∃ (n most : Int), vs = [.int n, .int most] ∧ 0 ≤ n ∧ n ≤ most ∧ Q .non H
theorem ok_check_number (X : TX K mg) : FnOk P w K mg base CX0 3 X.d_check_number.a X.d_check_number.fd ["number", "most"] spCheckNumber := by
  have nd := sc_check_number.nd
  refine X.d_check_number.F.ok sc_check_number (fun vs H Q E h => ?_) (fun cdv A outer s H vs Q E hr h => ?_)
  · obtain ⟨n, most, rfl, _⟩ := h
    rfl
  · obtain ⟨n, most, rfl, h1, h2, k⟩ := h
    refine ⟨_, (pss_one (ps_if (pt_not (pt_val (pe_call (ok_is_number X) (hr.mono (by decide)) rfl X.d_is_number.mg X.d_is_number.F.kp X.d_is_number.b .nil pass0 (pa_cons (pv 0) (pa_cons pe_int (pa_cons (pv 1) pa_nil)))))) (pss_one ps_never) pss_nil)), ?_⟩
    try dsimp only [Cx.nox, Cx.wish, cxOf]
    refine ⟨_, rfl, _, rfl, _, _, _, rfl, _, rfl, ?_⟩
    rw [decide_eq_true ⟨h1, h2⟩]
    exact iteF k
def spPower (T : List (Addr × Str)) (C : Addr) : Sp := fun vs H Q _ => ∃ (e : Addr) (tags : Word) (A : Form) (n : Nat), vs = [.ref e, .int (n : Int)] ∧ EatAt C H e tags A ∧ TagsOk tags ∧ Small tags A ∧ n ≤ 7 ∧ Tabs T H ∧
  ∀ (g dx a b : Addr) (L : List Tri) (H' : Hp), QB.Ext T H H' → Tabs T H' → EatN C H H' g dx a b L tags (pw tags A n) → Q (.ref g) H'
theorem ok_Eater_power (X : TX K mg) (TB : LamX.TabB base mg X.lam_c X.lam_P) : FnOk P w K mg base CX0 10 X.d_Eater_power.a X.d_Eater_power.fd ["self", "times"] (spPower (Tof X) X.c_Eater) := by
  have nd := sc_Eater_power.nd
  refine X.d_Eater_power.F.ok sc_Eater_power (fun vs H Q E h => ?_) (fun cdv A outer s H vs Q E hr h => ?_)
  · obtain ⟨e, tags, A, n, rfl, _⟩ := h
    rfl
  · obtain ⟨e, tags, A, n, rfl, he, to, S, hn, tb, k⟩ := h
    refine ⟨_, (pss_cons (ps_expr (pe_call (ok_check_number X) (hr.mono (by decide)) rfl X.d_check_number.mg X.d_check_number.F.kp X.d_check_number.b .nil pass0 (pa_cons (pv 1) (pa_cons (pe_gc rfl X.c_MOST_TIMES) pa_nil)))) (pss_one (ps_ret (pe_ix (QB.ix_listK K) (pe_call (ok_powers X TB) (hr.mono (by decide)) rfl X.d_powers.mg X.d_powers.F.kp X.d_powers.b .nil pass0 (pa_cons (pv 0) (pa_cons (pv 1) pa_nil))) (pv 1) (fun _ _ => rfl))))), ?_⟩
    try dsimp only [Cx.nox, Cx.wish, cxOf]
    refine ⟨_, rfl, (n : Int), 12, rfl, by omega, by omega, ?_⟩
    refine ⟨_, rfl, _, rfl, e, tags, A, n, rfl, he, to, S, hn, tb, fun p gs H1 e1 t1 hP => ?_⟩
    have gi : gs[n]? = some (gs[n]'(by have := hP.2.1; omega)) := List.getElem?_eq_getElem _
    generalize gs[n]'(by have := hP.2.1; omega) = g at gi
    obtain ⟨dx, a, b, L, q⟩ := hP.2.2 n g gi
    exact ⟨_, rfl, p, _, _, _, rfl, rfl, SqL.of hP.1, atI_nat (j := n) (v := V.ref g) (by rw [List.getElem?_map, gi]; rfl), k g dx a b L H1 e1 t1 q⟩
def spSettledE (T : List (Addr × Str)) (C : Addr) : Sp := fun vs H Q _ => ∃ (e : Addr) (tags : Word) (A : Form), vs = [.ref e] ∧ EatAt C H e tags A ∧ TagsOk tags ∧ Small tags A ∧ Tabs T H ∧
  ∀ H', QB.Ext T H H' → Tabs T H' → Q (.bl (decide (pw tags A 2 = A))) H'
theorem eatEq {K : PySem.W.Frag} {C : Addr} {H : Hp} {e f : Addr} {tags : Word} {G G2 : Form} {Q : VK} {E : XK} (he : EatAt C H e tags G) (hf : EatAt C H f tags G2) (w1 : WordsOk tags G) (w2 : WordsOk tags G2) (k : Q (.bl (decide (G = G2))) H) : spEqE K C [.ref e, .ref f] H Q E := by
  refine ⟨e, .ref f, tags, G, rfl, he, w1.txt, fun s hs t ht => w1.txt t (w1.sub s hs t ht), .inl ⟨f, tags, G2, rfl, hf, w1.txt, fun s hs t ht => w2.txt t (w2.sub s hs t ht), ?_⟩⟩
  rw [decide_eq_true rfl, Bool.true_and]
  exact k
theorem ok_is_settled (X : TX K mg) (TB : LamX.TabB base mg X.lam_c X.lam_P) : FnOk P w K mg base CX0 11 X.d_is_settled.a X.d_is_settled.fd ["eater"] (spSettledE (Tof X) X.c_Eater) := by
  have nd := sc_is_settled.nd
  refine X.d_is_settled.F.ok sc_is_settled (fun vs H Q E h => ?_) (fun cdv A outer s H vs Q E hr h => ?_)
  · obtain ⟨e, tags, A, rfl, _⟩ := h
    rfl
  · obtain ⟨e, tags, A, rfl, he, to, S, tb, k⟩ := h
    refine ⟨_, (pss_one (ps_ret (pe_cmpR (QO.op_eqO (ok_Eater___eq__ X) X.h_Eater___eq__ (hr.mono (by decide)) X.d_Eater___eq__.b pass0) (pe_meth (pv 0) X.cl_Eater X.h_Eater_power (ok_Eater_power X TB) (hr.mono (by decide)) X.d_Eater_power.b .nil pass0 (pa_cons pe_int pa_nil)) (pv 0) (nomark _)))), ?_⟩
    try dsimp only [Cx.nox, Cx.wish, cxOf]
    have he' := he
    obtain ⟨dx, a1, b1, g1, g2, g3⟩ := he
    refine ⟨_, rfl, e, dx, _, rfl, g1, rfl, ?_⟩
    refine ⟨e, tags, A, 2, rfl, he', to, S, by decide, tb, fun g _ _ _ _ H1 e1 t1 hg => ?_⟩
    have po := pwOk to S 2 (by decide)
    have hg := hg.at_
    have hg' := hg
    obtain ⟨dx2, a2, b2, f1, f2, f3⟩ := hg
    refine ⟨_, rfl, g, dx2, _, _, rfl, f1, X.oc_Eater.ty X.cl_Eater (e1.get g1), QO.OwnC.same, ?_⟩
    exact eatEq hg' (he'.ext e1) po.words S.words ⟨_, rfl, k H1 e1 t1⟩
end
end Law
end

section
set_option Elab.async false
set_option linter.all false
set_option maxRecDepth 100000
set_option maxHeartbeats 4000000
namespace Law
open PySem PySem.Spec PyProof.Rows L2 LamX QB QM
/-! the makers, rightly asked: just what form they make -/
/-- the ways of a maker -/
def waysFor (tags some_ : Word) (to_ : Nat) : Ways := tags.map fun t => if t ∈ some_ then some to_ else none
theorem waysFor_to {tags some_ : Word} {to_ m : Nat} (h : some m ∈ waysFor tags some_ to_) : m = to_ := by
  obtain ⟨t, _, e⟩ := List.mem_map.mp h
  split at e
  · exact (Option.some.inj e).symm
  · cases e
theorem waysFor_len (tags some_ : Word) (to_ : Nat) : (waysFor tags some_ to_).length = tags.length := List.length_map ..
theorem std_for {tags wd some_ : Word} {to_ n : Nat} (h1 : wd.length ≤ 8) (h2 : ∀ t ∈ wd, t ∈ tags) (h : to_ < n) : StdOk tags n (wd, waysFor tags some_ to_) := ⟨h1, h2, waysFor_len .., fun m hm => by rw [waysFor_to hm]; exact h⟩
theorem std_none {tags wd : Word} {n : Nat} (h1 : wd.length ≤ 8) (h2 : ∀ t ∈ wd, t ∈ tags) : StdOk tags n (wd, List.replicate tags.length none) := ⟨h1, h2, List.length_replicate .., fun m hm => by cases List.eq_of_mem_replicate hm⟩
theorem std_at {H : Hp} {t a b : Addr} {s : Std} (h1 : H t = some (.tup [.ref a, .ref b])) (h2 : WordAt H a s.1) (h3 : WaysAt H b s.2) : StdAt H t s := ⟨a, b, h1, h2, h3⟩
/-- a standing in a list that is being made, M the lists that change -/
def LineM (M : List Addr) (H : Hp) (v : V) (s : Std) : Prop := ∃ p b y, v = .ref p ∧ b ∉ M ∧ y ∉ M ∧ H p = some (.tup [.ref b, .ref y]) ∧ WordAt H b s.1 ∧ WaysAt H y s.2
theorem LineM.same {M : List Addr} {H H' : Hp} {v : V} {s : Std} (h : LineM M H v s) (k : Same H H') : LineM M H' v s := by
  obtain ⟨p, b, y, e, n1, n2, h1, h2, h3⟩ := h
  exact ⟨p, b, y, e, n1, n2, k _ _ h1, Same.word k h2, Same.ways k h3⟩
theorem LineM.upd {M : List Addr} {D : Addr} {H : Hp} {v : V} {s : Std} {xs ys : List V} (h : LineM M H v s) (m : D ∈ M) (hD : H D = some (.lst xs)) : LineM M (upd H D (.lst ys)) v s := by
  obtain ⟨p, b, y, e, n1, n2, h1, h2, h3⟩ := h
  exact ⟨p, b, y, e, n1, n2, (upd_ne (ne_of h1 hD (fun z => nomatch z))).trans h1, (upd_ne (fun z => n1 (by rw [z]; exact m))).trans h2, (upd_ne (fun z => n2 (by rw [z]; exact m))).trans h3⟩
theorem lineM_form {M : List Addr} {H : Hp} : ∀ {vs : List V} {F : Form}, Paired (LineM M H) vs F → ∃ ts, vs = ts.map V.ref ∧ Paired (StdAt H) ts F
  | _, _, .nil => ⟨[], rfl, .nil⟩
  | _, _, .cons h r => by
    obtain ⟨p, b, y, rfl, _, _, h1, h2, h3⟩ := h
    obtain ⟨ts, e1, e2⟩ := lineM_form r
    exact ⟨p :: ts, by rw [e1]; rfl, .cons ⟨b, y, h1, h2, h3⟩ e2⟩
theorem not1 {a D : Addr} (h : a ≠ D) : a ∉ [D] := fun z => h (List.mem_singleton.mp z)
theorem Paired.app {α β : Type} {R : α → β → Prop} : ∀ {l l' : List α} {m m' : List β}, Paired R l m → Paired R l' m' → Paired R (l ++ l') (m ++ m')
  | _, _, _, _, .nil, h => h
  | _, _, _, _, .cons a b, h => .cons a (Paired.app b h)
theorem formOk_oneM {tags wd : Word} (h : ∀ t ∈ wd, t ∈ tags) (hl : wd.length ≤ 8) : FormOk tags [(wd, List.replicate tags.length none)] := ⟨by show 1 ≤ 1; decide, by show 1 ≤ 30; decide, fun s hs => by
  rw [List.mem_singleton.mp hs]
  exact std_none hl h⟩
/-! what they make -/
def onceForm (tags : Word) (t : Str) : Form := [([t], waysFor tags [t] 1), ([t], List.replicate tags.length none)]
def stripForm (tags some_ : Word) : Option Nat → Form
  | none => [([], waysFor tags some_ 0)]
  | some n => (List.range n).map (fun i => (([] : Word), waysFor tags some_ (i + 1))) ++ [([], List.replicate tags.length none)]
def pressForm (tags : Word) (t : Str) (n : Nat) : Form := (List.range n).map (fun i => (List.replicate i t, waysFor tags [t] (i + 1))) ++ [(List.replicate n t, waysFor tags [t] n)]
def exStep (tags : Word) (ps : List (Str × Str)) (ws : Ways) (j : Nat) : Ways := match ps[j]? with
  | some p => ws.set (tags.idxOf p.1) (some (j + 1))
  | none => ws
def exWays (tags : Word) (ps : List (Str × Str)) (n : Nat) : Ways := (List.range n).foldl (exStep tags ps) (List.replicate tags.length none)
theorem exWays_succ {tags : Word} {ps : List (Str × Str)} {n : Nat} : exWays tags ps (n + 1) = exStep tags ps (exWays tags ps n) n := by
  unfold exWays
  rw [List.range_succ, List.foldl_append]
  rfl
theorem exWays_len {tags : Word} {ps : List (Str × Str)} : ∀ n, (exWays tags ps n).length = tags.length
  | 0 => List.length_replicate ..
  | n + 1 => by
    rw [exWays_succ]
    unfold exStep
    split
    · rw [List.length_set, exWays_len n]
    · exact exWays_len n
theorem exWays_to {tags : Word} {ps : List (Str × Str)} {m : Nat} : ∀ n, some m ∈ exWays tags ps n → m ≤ n
  | 0, h => by cases List.eq_of_mem_replicate h
  | n + 1, h => by
    rw [exWays_succ] at h
    unfold exStep at h
    split at h
    · rcases List.mem_or_eq_of_mem_set h with z | z
      · have := exWays_to n z
        omega
      · cases z
        exact Nat.le_refl _
    · have := exWays_to n h
      omega
def exForm (tags : Word) (ps : List (Str × Str)) : Form := ([], exWays tags ps ps.length) :: ps.map fun p => ([p.2], List.replicate tags.length none)
theorem onceOk {tags : Word} {t : Str} (h : t ∈ tags) : FormOk tags (onceForm tags t) := by
  have h1 : ∀ u ∈ [t], u ∈ tags := fun u hu => by rw [List.mem_singleton.mp hu]; exact h
  refine ⟨by show 1 ≤ 2; decide, by show 2 ≤ 30; decide, fun s hs => ?_⟩
  rcases List.mem_cons.mp hs with rfl | hs
  · exact std_for (by show 1 ≤ 8; decide) h1 (by show 1 < 2; decide)
  · rw [List.mem_singleton.mp hs]
    exact std_none (by show 1 ≤ 8; decide) h1
theorem stripOk {tags some_ : Word} {o : Option Nat} (h : ∀ n, o = some n → n ≤ 20) : FormOk tags (stripForm tags some_ o) := by
  cases o with
  | none =>
    refine ⟨by show 1 ≤ 1; decide, by show 1 ≤ 30; decide, fun s hs => ?_⟩
    rw [List.mem_singleton.mp hs]
    exact std_for (Nat.zero_le _) (fun _ h => nomatch h) (by show 0 < 1; decide)
  | some n =>
    have hn := h n rfl
    have hl : (stripForm tags some_ (some n)).length = n + 1 := by
      unfold stripForm
      rw [List.length_append, List.length_map, List.length_range]
      rfl
    refine ⟨by omega, by omega, fun s hs => ?_⟩
    rw [hl]
    rcases List.mem_append.mp hs with hs | hs
    · obtain ⟨i, hi, rfl⟩ := List.mem_map.mp hs
      have := List.mem_range.mp hi
      exact std_for (Nat.zero_le _) (fun _ h => nomatch h) (by omega)
    · rw [List.mem_singleton.mp hs]
      exact std_none (Nat.zero_le _) (fun _ h => nomatch h)
theorem exOk {tags : Word} {ps : List (Str × Str)} (h : ∀ p ∈ ps, p.2 ∈ tags) (hl : ps.length ≤ 6) : FormOk tags (exForm tags ps) := by
  have e : (exForm tags ps).length = ps.length + 1 := by
    unfold exForm
    rw [List.length_cons, List.length_map]
  refine ⟨by omega, by omega, fun s hs => ?_⟩
  rw [e]
  rcases List.mem_cons.mp hs with rfl | hs
  · exact ⟨Nat.zero_le _, (fun _ h => nomatch h), exWays_len _, fun m hm => by have := exWays_to _ hm; omega⟩
  · obtain ⟨p, hp, rfl⟩ := List.mem_map.mp hs
    exact std_none (by show 1 ≤ 8; decide) (fun u hu => by rw [List.mem_singleton.mp hu]; exact h p hp)
theorem press_all {tags : Word} {t : Str} {n : Nat} (h : t ∈ tags) : ∀ s ∈ pressForm tags t n, s.1.length ≤ n ∧ (∀ u ∈ s.1, u ∈ tags) ∧ s.2.length = tags.length ∧ ∀ m, some m ∈ s.2 → m ≤ n := fun s hs => by
  have rep : ∀ i, ∀ u ∈ List.replicate i t, u ∈ tags := fun i u hu => by rw [List.eq_of_mem_replicate hu]; exact h
  rcases List.mem_append.mp hs with hs | hs
  · obtain ⟨i, hi, rfl⟩ := List.mem_map.mp hs
    have := List.mem_range.mp hi
    exact ⟨by rw [List.length_replicate]; omega, rep i, waysFor_len .., fun m hm => by rw [waysFor_to hm]; omega⟩
  · rw [List.mem_singleton.mp hs]
    exact ⟨by rw [List.length_replicate]; exact Nat.le_refl _, rep n, waysFor_len .., fun m hm => by rw [waysFor_to hm]; exact Nat.le_refl _⟩
theorem press_len {tags : Word} {t : Str} {n : Nat} : (pressForm tags t n).length = n + 1 := by
  unfold pressForm
  rw [List.length_append, List.length_map, List.length_range]
  rfl
theorem press_good {tags : Word} {t : Str} {n : Nat} (h : t ∈ tags) (hn : n ≤ 20) : Good tags (pressForm tags t n) :=
  ⟨by rw [press_len]; omega, fun s hs => (press_all h s hs).2.2.1, fun s hs m hm => by rw [press_len]; have := (press_all h s hs).2.2.2 m hm; omega, by rw [press_len]; omega⟩
theorem press_words {tags : Word} {t : Str} {n : Nat} (to : TagsOk tags) (h : t ∈ tags) (hn : n ≤ 20) : WordsOk tags (pressForm tags t n) :=
  ⟨fun x hx => (to.names x hx).txt, fun s hs => (press_all h s hs).2.1, fun s hs => by have := (press_all h s hs).1; omega⟩
theorem least_wordsG {tags : Word} {G : Form} (g : Good tags G) (w : WordsOk tags G) : WordsOk tags (least tags G) := ⟨w.txt, fun s hs => by
    obtain ⟨s', h1, h2⟩ := least_word g hs
    rw [h2]
    exact w.sub s' h1, fun s hs => by
    obtain ⟨s', h1, h2⟩ := least_word g hs
    rw [h2]
    exact w.len s' h1⟩
/-- pairs of tags in a list -/
def PairsAt (H : Hp) (b : Addr) (ps : List (Str × Str)) : Prop := ∃ ts : List Addr, H b = some (.lst (ts.map V.ref)) ∧ Paired (fun t p => H t = some (.tup [.str p.1, .str p.2])) ts ps
theorem PairsAt.same {H H' : Hp} {b : Addr} {ps : List (Str × Str)} (h : PairsAt H b ps) (s : Same H H') : PairsAt H' b ps := by
  obtain ⟨ts, h1, h2⟩ := h
  exact ⟨ts, s _ _ h1, L2.Paired.mapP h2 fun _ _ q => s _ _ q⟩
section
variable {P : Program} {w : World} {K : PySem.W.Frag} {mg : Str → Option Value} {base : Heap}
theorem init_doneN {T : List (Addr × Str)} {C : Addr} {H0 H : Hp} {a b : Addr} {tags : Word} {F : Form} {Q : VK} {E : XK} (ha : WordAt H a tags) (hF : FormAt H b F) (to : TagsOk tags) (fo : FormOk tags F) (tb : Tabs T H) (e0 : QB.Ext T H0 H)
    (k : ∀ (e dx a' b' : Addr) (L : List Tri) (H' : Hp), QB.Ext T H0 H' → Tabs T H' → EatN C H0 H' e dx a' b' L tags (least tags F) → Q (.ref e) H') : ∀ x dx, H x = none → H dx = none → dx ≠ x → spInit T C (.ref x :: ([.ref a, .ref b] ++ [])) (upd (upd H dx (.own x)) x (.ins C dx [])) (fun v H2 => v = .non ∧ Q (.ref x) H2) E := fun x dx hx hd hne => by
  have hx' : (upd H dx (.own x)) x = none := (upd_ne hne.symm).trans hx
  have sM : Same H (upd (upd H dx (.own x)) x (.ins C dx [])) := Same.new (same_new hd) hx'
  exact ⟨x, dx, a, b, tags, F, H, rfl, upd_same, Same.word sM ha, Same.form sM hF, to, fo, tb.ext sM, .of sM, .of hx, fun a' b' L H' e' t' n' => ⟨rfl, k x dx a' b' L H' (e0.trans e') t' (n'.old e0)⟩⟩
theorem ok_ways_for (X : TX K mg) : FnOk P w K mg base CX0 1 X.d_ways_for.a X.d_ways_for.fd ["tags", "some", "to"]
    (fun vs H Q _ => ∃ (a b : Addr) (tags some_ : Word) (to_ : Nat), vs = [.ref a, .ref b, .int (to_ : Int)] ∧ WordAt H a tags ∧ WordAt H b some_ ∧ tags.length ≤ 100 ∧ ∀ (p : Addr) (H' : Hp), Same H H' → H p = none → WaysAt H' p (waysFor tags some_ to_) → Q (.ref p) H') := by
  have nd := sc_ways_for.nd
  refine X.d_ways_for.F.ok sc_ways_for (fun vs H Q E h => ?_) (fun cdv A outer s H vs Q E hr h => ?_)
  · obtain ⟨a, b, tags, some_, to_, rfl, _⟩ := h
    rfl
  · obtain ⟨a, b, tags, some_, to_, rfl, ha, hb, hl, k⟩ := h
    refine ⟨_, (pss_one (ps_ret (pe_lc (own := [("tag", 3)]) (g := gName 3) (tt := tYes) rfl nd (QB.pi_listK K (pv 0)) (blkOk_by (N := ["tags", "some", "to", "tag"]) (sc := defScope s_ways_for) (by decide +kernel)) (fun _ _ _ _ _ => pg_name (i := 3) nd rfl (Or.inl rfl)) (fun _ _ _ _ _ => pts_nil) (fun _ _ _ _ _ => (pe_ifExp (pt_cmpR (QB.op_inK K) (pv 3) (pv 1) rfl) (pv 2) pe_non))))), ?_⟩
    try dsimp only [Cx.nox, Cx.wish, cxOf]
    refine ⟨_, rfl, _, rfl, ⟨_, SqL.of ha⟩, fun D hD => ?_⟩
    refine lc_map (walk_listW (K := K) (a := a) (w := tags)) hD (by omega) (fun H2 s2 => Same.word s2 ha) (fun i => vW (((tags[i]?).map fun t => if t ∈ some_ then some to_ else none).getD none)) ?_ ?_
    · rintro j x H2 H3 kk hj s2 ⟨y, hy, rfl, rfl⟩ hk
      have hk := hk _ (Same.refl H3)
      rw [hy] at hk
      have hk : kk (vW (if y ∈ some_ then some to_ else none)) H3 := hk
      refine ⟨rfl, _, rfl, _, rfl, b, vS some_, rfl, .inl (SqL.of (Same.word s2 hb)), rfl, vS_flat, _, rfl, ?_⟩
      rw [if_neg Bool.false_ne_true, inV_word]
      by_cases hin : y ∈ some_
      · rw [if_pos hin] at hk
        rw [decide_eq_true hin]
        exact iteT ⟨_, rfl, hk⟩
      · rw [if_neg hin] at hk
        rw [decide_eq_false hin]
        exact iteF hk
    · intro H2 s2 e
      refine k D H2 s2 hD ?_
      unfold WaysAt waysFor vWs
      rw [e, List.map_map, range_map_get _ tags (fun t => vW (if t ∈ some_ then some to_ else none)) (fun i x hx => by rw [hx]; rfl)]
      rfl
def spCheckTag : Sp := fun vs H Q _ => ∃ (a : Addr) (tags : Word) (t : Str), vs = [.ref a, .str t] ∧ WordAt H a tags ∧ t ∈ tags ∧ Q .non H
theorem ok_check_tag (X : TX K mg) : FnOk P w K mg base CX0 3 X.d_check_tag.a X.d_check_tag.fd ["tags", "tag"] spCheckTag := by
  have nd := sc_check_tag.nd
  refine X.d_check_tag.F.ok sc_check_tag (fun vs H Q E h => ?_) (fun cdv A outer s H vs Q E hr h => ?_)
  · obtain ⟨a, tags, t, rfl, _⟩ := h
    rfl
  · obtain ⟨a, tags, t, rfl, ha, hin, k⟩ := h
    refine ⟨_, (pss_one (ps_if (pt_not (pt_val (pe_call (ok_is_tag X) (hr.mono (by decide)) rfl X.d_is_tag.mg X.d_is_tag.F.kp X.d_is_tag.b .nil pass0 (pa_cons (pv 0) (pa_cons (pv 1) pa_nil))))) (pss_one ps_never) pss_nil)), ?_⟩
    try dsimp only [Cx.nox, Cx.wish, cxOf]
    refine ⟨_, rfl, _, rfl, a, tags, t, rfl, ha, _, rfl, ?_⟩
    rw [decide_eq_true hin]
    exact iteF k
def spCheckSome : Sp := fun vs H Q _ => ∃ (a b : Addr) (tags sm : Word), vs = [.ref a, .ref b] ∧ WordAt H a tags ∧ WordAt H b sm ∧ sm.Nodup ∧ (∀ t ∈ sm, t ∈ tags) ∧ ∀ H', Same H H' → Q .non H'
theorem ok_check_some (X : TX K mg) : FnOk P w K mg base CX0 3 X.d_check_some.a X.d_check_some.fd ["tags", "some"] spCheckSome := by
  have nd := sc_check_some.nd
  refine X.d_check_some.F.ok sc_check_some (fun vs H Q E h => ?_) (fun cdv A outer s H vs Q E hr h => ?_)
  · obtain ⟨a, b, tags, sm, rfl, _⟩ := h
    rfl
  · obtain ⟨ta, a, tags, sm, rfl, hta, ha, hnd, hin, k⟩ := h
    refine ⟨_, (pss_cons (ps_if (pt_not (pt_val (pe_callB (QB.call_isiK K) (by rfl) X.n_isinstance QB.bo_isinstance (pa_cons (pv 1) (pa_cons (pe_bltn (v := .ty "list") (by rfl) X.n_list QB.bo_list rfl) pa_nil))))) (pss_one ps_never) pss_nil) (pss_one (ps_for PassesOwn.never rfl (QB.pi_enumK K (by rfl) X.n_enumerate (pa_cons (pv 1) pa_nil)) (pg_tup (by rfl) (pgs_cons (pg_name (i := 2) nd rfl (Or.inl rfl)) (pgs_cons (pg_name (i := 3) nd rfl (Or.inl rfl)) (pgs_nil)))) (pss_one (ps_if (PW.pt (pw_or (pt_not (pt_val (pe_call (ok_is_tag X) (hr.mono (by decide)) rfl X.d_is_tag.mg X.d_is_tag.F.kp X.d_is_tag.b .nil pass0 (pa_cons (pv 0) (pa_cons (pv 3) pa_nil))))) (pw_or1 (pt_cmpR (QB.op_inK K) (pv 3) (pe_slice (QB.sl_listK K) (pv 1) po_none (po_some (pv 2))) rfl)))) (pss_one ps_never) pss_nil))))), ?_⟩
    try dsimp only [Cx.nox, Cx.wish, cxOf]
    refine ⟨_, rfl, _, _, _, _, true, rfl, .ty "list", .base (.lst ha), kit_list_list, true, rfl, ?_⟩
    refine iteF ?_
    refine ⟨_, rfl, _, _, rfl, SqL.of ha, ?_⟩
    refine for_it (walk_enumW (K := K) (a := a) (w := sm)) (fun i σ H' => ∃ v1 v2, σ = [some (.ref ta), some (.ref a), v1, v2] ∧ Same H H') ⟨none, none, rfl, Same.refl H⟩ (fun i σ H' _ ⟨_, _, _, s1⟩ => Same.word s1 ha) ?_ ?_
    · rintro i v σ H1 H2 hi ⟨v1, v2, rfl, s1⟩ ⟨tp, t, ht, ntp, rfl, rfl⟩
      have s2 := Same.new s1 (o := .tup [.int (i : Int), .str t]) ntp
      refine ⟨tp, _, rfl, SqT.of upd_same, rfl, _, _, rfl, _, _, rfl, rfl, ?_⟩
      refine ⟨_, rfl, _, rfl, ta, tags, t, rfl, Same.word s2 hta, _, rfl, ?_⟩
      rw [decide_eq_true (hin t (List.mem_of_getElem? ht))]
      refine iteF ?_
      refine ⟨_, rfl, _, rfl, _, rfl, _, rfl, a, _, rfl, SqL.of (Same.word s2 ha), fun q hq => ?_⟩
      rw [cut_take, vS_take]
      refine ⟨q, _, rfl, .inl (SqL.of upd_same), rfl, vS_flat, _, rfl, ?_⟩
      rw [if_neg Bool.false_ne_true, inV_word]
      have hnot : t ∉ sm.take i := fun hm => by
        obtain ⟨j, hj, e⟩ := List.mem_iff_getElem.mp hm
        rw [List.length_take] at hj
        rw [List.getElem_take] at e
        have e2 : sm[j]? = some t := by rw [List.getElem?_eq_getElem (by omega), e]
        have := nd_ix hnd e2 ht
        omega
      rw [decide_eq_false hnot]
      exact iteF ⟨_, _, rfl, Same.new s2 hq⟩
    · rintro σ H1 ⟨v1, v2, rfl, s1⟩
      exact k H1 s1
def spIsPair : Sp := fun vs H Q _ => ∃ (a t : Addr) (tags : Word) (p : Str × Str), vs = [.ref a, .ref t] ∧ WordAt H a tags ∧ H t = some (.tup [.str p.1, .str p.2]) ∧ p.1 ∈ tags ∧ p.2 ∈ tags ∧ Q (.bl true) H
theorem ok_is_pair (X : TX K mg) : FnOk P w K mg base CX0 2 X.d_is_pair.a X.d_is_pair.fd ["tags", "x"] spIsPair := by
  have nd := sc_is_pair.nd
  refine X.d_is_pair.F.ok sc_is_pair (fun vs H Q E h => ?_) (fun cdv A outer s H vs Q E hr h => ?_)
  · obtain ⟨a, t, tags, p, rfl, _⟩ := h
    rfl
  · obtain ⟨a, t, tags, p, rfl, ha, ht, i1, i2, k⟩ := h
    refine ⟨_, (pss_one (ps_ret (pe_and (pe_callB (QB.call_isiK K) (by rfl) X.n_isinstance QB.bo_isinstance (pa_cons (pv 1) (pa_cons (pe_bltn (v := .ty "tuple") (by rfl) X.n_tuple QB.bo_tuple rfl) pa_nil))) (pe_and (pe_cmpR op_eq (pe_callB (QB.call_lenK K) (by rfl) X.n_len PySem.boot_len (pa_cons (pv 1) pa_nil)) pe_int (nomark _)) (pe_and (pe_call (ok_is_tag X) (hr.mono (by decide)) rfl X.d_is_tag.mg X.d_is_tag.F.kp X.d_is_tag.b .nil pass0 (pa_cons (pv 0) (pa_cons (pe_ix (QB.ix_tupK K) (pv 1) pe_int (fun _ _ => rfl)) pa_nil))) (pe_one (pe_call (ok_is_tag X) (hr.mono (by decide)) rfl X.d_is_tag.mg X.d_is_tag.F.kp X.d_is_tag.b .nil pass0 (pa_cons (pv 0) (pa_cons (pe_ix (QB.ix_tupK K) (pv 1) pe_int (fun _ _ => rfl)) pa_nil))))))))), ?_⟩
    try dsimp only [Cx.nox, Cx.wish, cxOf]
    refine ⟨_, rfl, _, _, _, _, true, rfl, .ty "tuple", .base (.tup ht), kit_tuple_tuple, true, rfl, ?_⟩
    refine iteT ?_
    refine ⟨_, rfl, _, _, rfl, .inr (SqT.of ht), rfl, _, rfl, ?_⟩
    rw [decide_eq_true (show V.int (([V.str p.1, V.str p.2].length : Nat) : Int) = V.int 2 from rfl)]
    refine iteT ?_
    refine ⟨_, rfl, _, rfl, t, _, 0, .str p.1, rfl, rfl, SqT.of ht, rfl, a, tags, p.1, rfl, ha, ?_⟩
    refine ⟨_, rfl, ?_⟩
    rw [decide_eq_true i1]
    refine iteT ?_
    refine ⟨_, rfl, _, rfl, t, _, 1, .str p.2, rfl, rfl, SqT.of ht, rfl, a, tags, p.2, rfl, ha, ?_⟩
    rw [decide_eq_true i2]
    exact k
def spCheckPairs : Sp := fun vs H Q _ => ∃ (a b : Addr) (tags : Word) (ps : List (Str × Str)), vs = [.ref a, .ref b] ∧ WordAt H a tags ∧ PairsAt H b ps ∧ (ps.map (·.1)).Nodup ∧ (∀ p ∈ ps, p.1 ∈ tags ∧ p.2 ∈ tags) ∧ ps.length ≤ 6 ∧ ∀ H', Same H H' → Q .non H'
theorem ok_check_pairs (X : TX K mg) : FnOk P w K mg base CX0 3 X.d_check_pairs.a X.d_check_pairs.fd ["tags", "pairs"] spCheckPairs := by
  have nd := sc_check_pairs.nd
  refine X.d_check_pairs.F.ok sc_check_pairs (fun vs H Q E h => ?_) (fun cdv A outer s H vs Q E hr h => ?_)
  · obtain ⟨a, b, tags, ps, rfl, _⟩ := h
    rfl
  · obtain ⟨ta, a, tags, ps, rfl, hta, ⟨ts, ha, hps⟩, hnd, hin, hl, k⟩ := h
    refine ⟨_, (pss_cons (ps_if (pt_not (pt_val (pe_callB (QB.call_isiK K) (by rfl) X.n_isinstance QB.bo_isinstance (pa_cons (pv 1) (pa_cons (pe_bltn (v := .ty "list") (by rfl) X.n_list QB.bo_list rfl) pa_nil))))) (pss_one ps_never) pss_nil) (pss_cons (ps_set (i := 2) nd rfl (Or.inl rfl) (pe_lst pa_nil)) (pss_one (ps_for PassesOwn.never rfl (QB.pi_enumK K (by rfl) X.n_enumerate (pa_cons (pv 1) pa_nil)) (pg_tup (by rfl) (pgs_cons (pg_name (i := 3) nd rfl (Or.inl rfl)) (pgs_cons (pg_name (i := 4) nd rfl (Or.inl rfl)) (pgs_nil)))) (pss_cons (ps_if (PW.pt (pw_or (pt_not (pt_val (pe_call (ok_is_pair X) (hr.mono (by decide)) rfl X.d_is_pair.mg X.d_is_pair.F.kp X.d_is_pair.b .nil pass0 (pa_cons (pv 0) (pa_cons (pv 4) pa_nil))))) (pw_or1 (pt_cmpR (QB.op_inK K) (pe_ix (QB.ix_tupK K) (pv 4) pe_int (fun _ _ => rfl)) (pv 2) rfl)))) (pss_one ps_never) pss_nil) (pss_one (ps_expr (QB.pe_bmK K PySem.F.plainAttrs_list PySem.F.slot_list_append PySem.F.type_list_append mt_append (pv 2) (pa_cons (pe_ix (QB.ix_tupK K) (pv 4) pe_int (fun _ _ => rfl)) pa_nil))))))))), ?_⟩
    try dsimp only [Cx.nox, Cx.wish, cxOf]
    have tl := Paired.length hps
    refine ⟨_, rfl, _, _, _, _, true, rfl, .ty "list", .base (.lst ha), kit_list_list, true, rfl, ?_⟩
    refine iteF ?_
    refine ⟨by show 0 ≤ sizeLine; decide, fun D hD => ?_⟩
    have s0 := same_new (o := .lst ([] : List V)) hD
    have k0 : WordAt (upd H D (.lst [])) D [] := upd_same
    generalize upd H D (.lst []) = H0 at s0 k0 ⊢
    refine ⟨_, rfl, _, _, rfl, SqL.of (s0 _ _ ha), ?_⟩
    refine for_it (walk_enum (K := K) (a := a) (xs := ts.map V.ref)) (fun i σ H' => ∃ v1 v2, σ = [some (.ref ta), some (.ref a), some (.ref D), v1, v2] ∧ Same H H' ∧ WordAt H' D ((ps.take i).map (·.1)))
      ⟨none, none, rfl, s0, k0⟩ (fun i σ H' _ ⟨_, _, _, s1, _⟩ => SqL.of (s1 _ _ ha)) ?_ ?_
    · rintro i v σ H1 H2 hi ⟨v1, v2, rfl, s1, kD⟩ ⟨tp, x1, x2, rfl, ntp, rfl, e1, e2⟩
      have e1 : some (V.int (i : Int)) = some x1 := e1
      have e2 : (ts.map V.ref)[i]? = some x2 := e2
      cases e1
      rw [List.length_map] at hi
      have hti : ts[i]? = some ts[i] := List.getElem?_eq_getElem hi
      rw [List.getElem?_map, hti] at e2
      cases e2
      obtain ⟨p, hp, ht⟩ := paired_get' hps hti
      generalize ts[i] = t at ht ntp ⊢
      have hpm := List.mem_of_getElem? hp
      have s2 := Same.new s1 (o := .tup [.int (i : Int), .ref t]) ntp
      have kD2 : WordAt (upd H1 tp (.tup [.int (i : Int), .ref t])) D ((ps.take i).map (·.1)) := (same_new ntp) _ _ kD
      refine ⟨tp, _, rfl, SqT.of upd_same, rfl, _, _, rfl, _, _, rfl, rfl, ?_⟩
      generalize upd H1 tp (.tup [.int (i : Int), .ref t]) = H3 at s2 kD2 ⊢
      refine ⟨_, rfl, _, rfl, ta, t, tags, p, rfl, Same.word s2 hta, s2 _ _ ht, (hin p hpm).1, (hin p hpm).2, ?_⟩
      refine ⟨_, rfl, ?_⟩
      refine iteF ?_
      have hnot : p.1 ∉ (ps.take i).map (·.1) := fun hm => by
        rw [List.map_take] at hm
        obtain ⟨j, hj, e⟩ := List.mem_iff_getElem.mp hm
        rw [List.length_take] at hj
        rw [List.getElem_take] at e
        have e2 : (ps.map (·.1))[j]? = some p.1 := by rw [List.getElem?_eq_getElem (by omega), e]
        have := nd_ix hnd e2 (show (ps.map (·.1))[i]? = some p.1 by rw [List.getElem?_map, hp]; rfl)
        omega
      refine ⟨_, rfl, t, _, 0, .str p.1, rfl, rfl, SqT.of (s2 _ _ ht), rfl, _, rfl, D, _, rfl, .inl (SqL.of kD2), rfl, vS_flat, _, rfl, ?_⟩
      rw [if_neg Bool.false_ne_true, inV_word, decide_eq_false hnot]
      refine iteF ?_
      refine ⟨_, rfl, .inl ⟨rfl, _, SqL.of kD2⟩, _, rfl, t, _, 0, .str p.1, rfl, rfl, SqT.of (s2 _ _ ht), rfl, D, _, _, rfl, rfl, kD2, by rw [vS_len, List.length_map, List.length_take]; exact sz_lt (by omega), ?_⟩
      refine ⟨_, _, rfl, Same.mut s2 hD, ?_⟩
      unfold WordAt
      rw [upd_same, List.take_succ, hp, List.map_append]
      unfold vS
      rw [List.map_append]
      rfl
    · rintro σ H1 ⟨v1, v2, rfl, s1, kD⟩
      exact k H1 s1
def spPut (T : List (Addr × Str)) (C : Addr) : Sp := fun vs H Q _ => ∃ (a b : Addr) (tags wd : Word), vs = [.ref a, .ref b] ∧ WordAt H a tags ∧ WordAt H b wd ∧ TagsOk tags ∧ (∀ t ∈ wd, t ∈ tags) ∧ wd.length ≤ 8 ∧ Tabs T H ∧
  ∀ (e dx a' b' : Addr) (L : List Tri) (H' : Hp), QB.Ext T H H' → Tabs T H' → EatN C H H' e dx a' b' L tags (least tags [(wd, List.replicate tags.length none)]) → Q (.ref e) H'
theorem ok_put (X : TX K mg) (TB : LamX.TabB base mg X.lam_c X.lam_P) : FnOk P w K mg base CX0 7 X.d_put.a X.d_put.fd ["tags", "word"] (spPut (Tof X) X.c_Eater) := by
  have nd := sc_put.nd
  refine X.d_put.F.ok sc_put (fun vs H Q E h => ?_) (fun cdv A outer s H vs Q E hr h => ?_)
  · obtain ⟨a, b, tags, wd, rfl, _⟩ := h
    rfl
  · obtain ⟨a, b, tags, wd, rfl, ha, hb, to, hin, hl, tb, k⟩ := h
    refine ⟨_, (pss_cons (ps_expr (pe_call (ok_check_tags X) (hr.mono (by decide)) rfl X.d_check_tags.mg X.d_check_tags.F.kp X.d_check_tags.b .nil pass0 (pa_cons (pv 0) pa_nil))) (pss_cons (ps_expr (pe_call (ok_check_word X) (hr.mono (by decide)) rfl X.d_check_word.mg X.d_check_word.F.kp X.d_check_word.b .nil pass0 (pa_cons (pv 0) (pa_cons (pv 1) (pa_cons (pe_gc rfl X.c_LONGEST_WORD) pa_nil))))) (pss_one (ps_ret (pe_make X.mk_Eater (ok_Eater___init__ X TB) (hr.mono (by decide)) rfl X.m_Eater X.d_Eater___init__.b .nil pass0 (pa_cons (pv 0) (pa_cons (pe_lst (pa_cons (pe_tup (pa_cons (pv 1) (pa_cons (pe_call (ok_no_ways X) (hr.mono (by decide)) rfl X.d_no_ways.mg X.d_no_ways.F.kp X.d_no_ways.b .nil pass0 (pa_cons (pv 0) pa_nil)) pa_nil))) pa_nil)) pa_nil))))))), ?_⟩
    try dsimp only [Cx.nox, Cx.wish, cxOf]
    have htl := to.len
    refine ⟨_, rfl, a, tags, rfl, ha, to, fun H1 s1 => ?_⟩
    refine ⟨_, rfl, _, rfl, a, b, tags, wd, 8, rfl, Same.word s1 ha, Same.word s1 hb, by omega, hin, fun H2 s2 => ?_⟩
    have s12 := s1.trans s2
    refine ⟨_, rfl, _, rfl, _, rfl, a, tags, rfl, Same.word s12 ha, by omega, fun p H3 s3 n3 h3 => ?_⟩
    have s13 := s12.trans s3
    refine ⟨by show 2 ≤ sizeLine; decide, fun t ht => ⟨by show 1 ≤ sizeLine; decide, fun l hl => ?_⟩⟩
    have s5 : Same H3 (upd (upd H3 t (.tup [V.ref b, V.ref p])) l (.lst [V.ref t])) := Same.new (same_new ht) hl
    have r4 : (upd (upd H3 t (.tup [V.ref b, V.ref p])) l (.lst [V.ref t])) t = some (.tup [V.ref b, V.ref p]) := (upd_ne (ne_of_none upd_same hl)).trans upd_same
    have r5 : (upd (upd H3 t (.tup [V.ref b, V.ref p])) l (.lst [V.ref t])) l = some (.lst [V.ref t]) := upd_same
    have hF : FormAt (upd (upd H3 t (.tup [V.ref b, V.ref p])) l (.lst [V.ref t])) l [(wd, List.replicate tags.length none)] := ⟨[t], r5, .cons ⟨b, p, r4, Same.word (s13.trans s5) hb, Same.ways s5 h3⟩ .nil⟩
    generalize upd (upd H3 t (.tup [V.ref b, V.ref p])) l (.lst [V.ref t]) = H5 at s5 hF ⊢
    have s15 := s13.trans s5
    exact init_doneN (Same.word s15 ha) hF to (formOk_oneM hin (by omega)) (tb.ext s15) (.of s15) k
def spKeep (T : List (Addr × Str)) (C : Addr) : Sp := fun vs H Q _ => ∃ (a : Addr) (tags : Word), vs = [.ref a] ∧ WordAt H a tags ∧ TagsOk tags ∧ Tabs T H ∧
  ∀ (e dx a' b' : Addr) (L : List Tri) (H' : Hp), QB.Ext T H H' → Tabs T H' → EatN C H H' e dx a' b' L tags (least tags [([], List.replicate tags.length none)]) → Q (.ref e) H'
theorem ok_keep (X : TX K mg) (TB : LamX.TabB base mg X.lam_c X.lam_P) : FnOk P w K mg base CX0 8 X.d_keep.a X.d_keep.fd ["tags"] (spKeep (Tof X) X.c_Eater) := by
  have nd := sc_keep.nd
  refine X.d_keep.F.ok sc_keep (fun vs H Q E h => ?_) (fun cdv A outer s H vs Q E hr h => ?_)
  · obtain ⟨a, tags, rfl, _⟩ := h
    rfl
  · obtain ⟨a, tags, rfl, ha, to, tb, k⟩ := h
    refine ⟨_, (pss_one (ps_ret (pe_call (ok_put X TB) (hr.mono (by decide)) rfl X.d_put.mg X.d_put.F.kp X.d_put.b .nil pass0 (pa_cons (pv 0) (pa_cons (pe_lst pa_nil) pa_nil))))), ?_⟩
    try dsimp only [Cx.nox, Cx.wish, cxOf]
    refine ⟨_, rfl, by show 0 ≤ sizeLine; decide, fun q hq => ?_⟩
    have s1 := same_new (o := .lst ([] : List V)) hq
    have k1 : WordAt (upd H q (.lst [])) q [] := upd_same
    generalize upd H q (.lst []) = H1 at s1 k1 ⊢
    have e1 := QB.Ext.of (T := Tof X) s1
    exact ⟨a, q, tags, [], rfl, Same.word s1 ha, k1, to, (fun _ h => nomatch h), Nat.zero_le _, e1.2 tb, fun e dx a' b' L H' e' t' n' => k e dx a' b' L H' (e1.trans e') t' (n'.old e1)⟩
def spOnce (T : List (Addr × Str)) (C : Addr) : Sp := fun vs H Q _ => ∃ (a : Addr) (tags : Word) (t : Str), vs = [.ref a, .str t] ∧ WordAt H a tags ∧ TagsOk tags ∧ t ∈ tags ∧ Tabs T H ∧
  ∀ (e dx a' b' : Addr) (L : List Tri) (H' : Hp), QB.Ext T H H' → Tabs T H' → EatN C H H' e dx a' b' L tags (least tags (onceForm tags t)) → Q (.ref e) H'
theorem ok_once (X : TX K mg) (TB : LamX.TabB base mg X.lam_c X.lam_P) : FnOk P w K mg base CX0 7 X.d_once.a X.d_once.fd ["tags", "tag"] (spOnce (Tof X) X.c_Eater) := by
  have nd := sc_once.nd
  refine X.d_once.F.ok sc_once (fun vs H Q E h => ?_) (fun cdv A outer s0 H vs Q E hr h => ?_)
  · obtain ⟨a, tags, t, rfl, _⟩ := h
    rfl
  · obtain ⟨a, tags, t, rfl, ha, to, hin, tb, k⟩ := h
    refine ⟨_, (pss_cons (ps_expr (pe_call (ok_check_tags X) (hr.mono (by decide)) rfl X.d_check_tags.mg X.d_check_tags.F.kp X.d_check_tags.b .nil pass0 (pa_cons (pv 0) pa_nil))) (pss_cons (ps_expr (pe_call (ok_check_tag X) (hr.mono (by decide)) rfl X.d_check_tag.mg X.d_check_tag.F.kp X.d_check_tag.b .nil pass0 (pa_cons (pv 0) (pa_cons (pv 1) pa_nil)))) (pss_one (ps_ret (pe_make X.mk_Eater (ok_Eater___init__ X TB) (hr.mono (by decide)) rfl X.m_Eater X.d_Eater___init__.b .nil pass0 (pa_cons (pv 0) (pa_cons (pe_lst (pa_cons (pe_tup (pa_cons (pe_lst (pa_cons (pv 1) pa_nil)) (pa_cons (pe_call (ok_ways_for X) (hr.mono (by decide)) rfl X.d_ways_for.mg X.d_ways_for.F.kp X.d_ways_for.b .nil pass0 (pa_cons (pv 0) (pa_cons (pe_lst (pa_cons (pv 1) pa_nil)) (pa_cons pe_int pa_nil)))) pa_nil))) (pa_cons (pe_tup (pa_cons (pe_lst (pa_cons (pv 1) pa_nil)) (pa_cons (pe_call (ok_no_ways X) (hr.mono (by decide)) rfl X.d_no_ways.mg X.d_no_ways.F.kp X.d_no_ways.b .nil pass0 (pa_cons (pv 0) pa_nil)) pa_nil))) pa_nil))) pa_nil))))))), ?_⟩
    try dsimp only [Cx.nox, Cx.wish, cxOf]
    have htl := to.len
    refine ⟨_, rfl, a, tags, rfl, ha, to, fun H1 s1 => ?_⟩
    refine ⟨_, rfl, _, rfl, a, tags, t, rfl, Same.word s1 ha, hin, ?_⟩
    -- the first standing
    refine ⟨_, rfl, _, rfl, by show 1 ≤ sizeLine; decide, fun w1 m1 => ?_⟩
    have s2 := same_new (o := .lst [V.str t]) m1
    have r1 : WordAt (upd H1 w1 (.lst [V.str t])) w1 [t] := upd_same
    have s12 := s1.trans s2
    generalize upd H1 w1 (.lst [V.str t]) = H2 at r1 s12 ⊢
    refine ⟨_, rfl, _, rfl, by show 1 ≤ sizeLine; decide, fun w2 m2 => ?_⟩
    have s3 := same_new (o := .lst [V.str t]) m2
    have r2 : WordAt (upd H2 w2 (.lst [V.str t])) w2 [t] := upd_same
    have r1 := Same.word s3 r1
    have s13 := s12.trans s3
    generalize upd H2 w2 (.lst [V.str t]) = H3 at r1 r2 s13 ⊢
    refine ⟨a, w2, tags, [t], 1, rfl, Same.word s13 ha, r2, by omega, fun x3 H4 s4 n4 r4 => ?_⟩
    have r1 := Same.word s4 r1
    have s14 := s13.trans s4
    refine ⟨by show 2 ≤ sizeLine; decide, fun t1 m4 => ?_⟩
    have s5 := same_new (o := .tup [V.ref w1, V.ref x3]) m4
    have g1 : StdAt (upd H4 t1 (.tup [V.ref w1, V.ref x3])) t1 ([t], waysFor tags [t] 1) := std_at upd_same (Same.word s5 r1) (Same.ways s5 r4)
    have s15 := s14.trans s5
    generalize upd H4 t1 (.tup [V.ref w1, V.ref x3]) = H5 at g1 s15 ⊢
    -- the second
    refine ⟨_, rfl, by show 1 ≤ sizeLine; decide, fun w3 m5 => ?_⟩
    have s6 := same_new (o := .lst [V.str t]) m5
    have r5 : WordAt (upd H5 w3 (.lst [V.str t])) w3 [t] := upd_same
    have g1 := Same.std s6 g1
    have s16 := s15.trans s6
    generalize upd H5 w3 (.lst [V.str t]) = H6 at r5 g1 s16 ⊢
    refine ⟨_, rfl, a, tags, rfl, Same.word s16 ha, by omega, fun x6 H7 s7 n7 r7 => ?_⟩
    have r5 := Same.word s7 r5
    have g1 := Same.std s7 g1
    have s17 := s16.trans s7
    refine ⟨by show 2 ≤ sizeLine; decide, fun t2 m7 => ?_⟩
    have s8 := same_new (o := .tup [V.ref w3, V.ref x6]) m7
    have g2 : StdAt (upd H7 t2 (.tup [V.ref w3, V.ref x6])) t2 ([t], List.replicate tags.length none) := std_at upd_same (Same.word s8 r5) (Same.ways s8 r7)
    have g1 := Same.std s8 g1
    have s18 := s17.trans s8
    generalize upd H7 t2 (.tup [V.ref w3, V.ref x6]) = H8 at g1 g2 s18 ⊢
    refine ⟨by show 2 ≤ sizeLine; decide, fun x9 m9 => ?_⟩
    have s9 := same_new (o := .lst [V.ref t1, V.ref t2]) m9
    have hF : FormAt (upd H8 x9 (.lst [V.ref t1, V.ref t2])) x9 (onceForm tags t) := ⟨[t1, t2], upd_same, .cons (Same.std s9 g1) (.cons (Same.std s9 g2) .nil)⟩
    generalize upd H8 x9 (.lst [V.ref t1, V.ref t2]) = H9 at hF s9 ⊢
    have s19 := s18.trans s9
    exact init_doneN (Same.word s19 ha) hF to (onceOk hin) (tb.ext s19) (.of s19) k
def noV : Option Nat → V
  | none => .non
  | some n => .int (n : Int)
def spStrip (T : List (Addr × Str)) (C : Addr) : Sp := fun vs H Q _ => ∃ (a b : Addr) (tags sm : Word) (o : Option Nat), vs = [.ref a, .ref b, noV o] ∧ WordAt H a tags ∧ WordAt H b sm ∧ TagsOk tags ∧ sm.Nodup ∧ (∀ t ∈ sm, t ∈ tags) ∧ (∀ n, o = some n → n ≤ 20) ∧ Tabs T H ∧
  ∀ (e dx a' b' : Addr) (L : List Tri) (H' : Hp), QB.Ext T H H' → Tabs T H' → EatN C H H' e dx a' b' L tags (least tags (stripForm tags sm o)) → Q (.ref e) H'
theorem ok_strip (X : TX K mg) (TB : LamX.TabB base mg X.lam_c X.lam_P) : FnOk P w K mg base CX0 7 X.d_strip.a X.d_strip.fd ["tags", "some", "most"] (spStrip (Tof X) X.c_Eater) := by
  have nd := sc_strip.nd
  refine X.d_strip.F.ok sc_strip (fun vs H Q E h => ?_) (fun cdv A outer s0 H vs Q E hr h => ?_)
  · obtain ⟨a, b, tags, sm, o, rfl, _⟩ := h
    rfl
  · obtain ⟨a, b, tags, sm, o, rfl, ha, hs, to, hnd, hin, ho, tb, k⟩ := h
    refine ⟨_, (pss_cons (ps_expr (pe_call (ok_check_tags X) (hr.mono (by decide)) rfl X.d_check_tags.mg X.d_check_tags.F.kp X.d_check_tags.b .nil pass0 (pa_cons (pv 0) pa_nil))) (pss_cons (ps_expr (pe_call (ok_check_some X) (hr.mono (by decide)) rfl X.d_check_some.mg X.d_check_some.F.kp X.d_check_some.b .nil pass0 (pa_cons (pv 0) (pa_cons (pv 1) pa_nil)))) (pss_cons (ps_if (pt_cmpR op_isN (pv 2) pe_non (nomark _)) (pss_one (ps_ret (pe_make X.mk_Eater (ok_Eater___init__ X TB) (hr.mono (by decide)) rfl X.m_Eater X.d_Eater___init__.b .nil pass0 (pa_cons (pv 0) (pa_cons (pe_lst (pa_cons (pe_tup (pa_cons (pe_lst pa_nil) (pa_cons (pe_call (ok_ways_for X) (hr.mono (by decide)) rfl X.d_ways_for.mg X.d_ways_for.F.kp X.d_ways_for.b .nil pass0 (pa_cons (pv 0) (pa_cons (pv 1) (pa_cons pe_int pa_nil)))) pa_nil))) pa_nil)) pa_nil))))) pss_nil) (pss_cons (ps_expr (pe_call (ok_check_number X) (hr.mono (by decide)) rfl X.d_check_number.mg X.d_check_number.F.kp X.d_check_number.b .nil pass0 (pa_cons (pv 2) (pa_cons (pe_gc rfl X.c_LARGEST_MOST) pa_nil)))) (pss_cons (ps_setLc (i := 3) (own := [("taken", 4)]) (g := gName 4) (tt := tYes) rfl nd rfl rfl (sw_true rfl rfl rfl (by decide +kernel)) (pi_range1 (by rfl) X.n_range (pa_cons (pv 2) pa_nil)) (blkOk_by (N := ["tags", "some", "most", "standings", "taken"]) (sc := defScope s_strip) (by decide +kernel)) (fun _ _ _ _ _ => pg_name (i := 4) nd rfl (Or.inl rfl)) (fun _ _ _ _ _ => pts_nil) (fun _ _ _ _ _ => (pe_tup (pa_cons (pe_lst pa_nil) (pa_cons (pe_call (ok_ways_for X) (hr.mono (by decide)) rfl X.d_ways_for.mg X.d_ways_for.F.kp X.d_ways_for.b .nil pass0 (pa_cons (pv 0) (pa_cons (pv 1) (pa_cons (pe_op op_add (pv 4) pe_int) pa_nil)))) pa_nil))))) (pss_one (ps_ret (pe_make X.mk_Eater (ok_Eater___init__ X TB) (hr.mono (by decide)) rfl X.m_Eater X.d_Eater___init__.b .nil pass0 (pa_cons (pv 0) (pa_cons (pe_op op_cat (pv 3) (pe_lst (pa_cons (pe_tup (pa_cons (pe_lst pa_nil) (pa_cons (pe_call (ok_no_ways X) (hr.mono (by decide)) rfl X.d_no_ways.mg X.d_no_ways.F.kp X.d_no_ways.b .nil pass0 (pa_cons (pv 0) pa_nil)) pa_nil))) pa_nil))) pa_nil)))))))))), ?_⟩
    try dsimp only [Cx.nox, Cx.wish, cxOf]
    have htl := to.len
    refine ⟨_, rfl, a, tags, rfl, ha, to, fun H1 s1 => ?_⟩
    refine ⟨_, rfl, _, rfl, a, b, tags, sm, rfl, Same.word s1 ha, Same.word s1 hs, hnd, hin, fun H2 s2 => ?_⟩
    have s12 := s1.trans s2
    have ha2 := Same.word s12 ha
    have hs2 := Same.word s12 hs
    have sOk := stripOk (tags := tags) (some_ := sm) ho
    refine ⟨_, rfl, rfl, _, rfl, ?_⟩
    cases o with
    | none =>
      rw [decide_eq_true (show noV none = V.non from rfl)]
      refine iteT ?_
      refine ⟨_, rfl, by show 0 ≤ sizeLine; decide, fun w1 m1 => ?_⟩
      have s3 := same_new (o := .lst ([] : List V)) m1
      have r1 : WordAt (upd H2 w1 (.lst [])) w1 [] := upd_same
      have s13 := s12.trans s3
      have hs3 := Same.word s3 hs2
      have ha3 := Same.word s3 ha2
      generalize upd H2 w1 (.lst []) = H3 at r1 s13 hs3 ha3 ⊢
      refine ⟨_, rfl, _, rfl, a, b, tags, sm, 0, rfl, ha3, hs3, by omega, fun x3 H4 s4 n4 r4 => ?_⟩
      have r1 := Same.word s4 r1
      have s14 := s13.trans s4
      refine ⟨by show 2 ≤ sizeLine; decide, fun x4 m4 => ⟨by show 1 ≤ sizeLine; decide, fun x5 m5 => ?_⟩⟩
      have s5 : Same H4 (upd (upd H4 x4 (.tup [V.ref w1, V.ref x3])) x5 (.lst [V.ref x4])) := Same.new (same_new m4) m5
      have r5 : (upd (upd H4 x4 (.tup [V.ref w1, V.ref x3])) x5 (.lst [V.ref x4])) x4 = some (.tup [V.ref w1, V.ref x3]) := (upd_ne (ne_of_none upd_same m5)).trans upd_same
      have hF : FormAt (upd (upd H4 x4 (.tup [V.ref w1, V.ref x3])) x5 (.lst [V.ref x4])) x5 (stripForm tags sm none) := ⟨[x4], upd_same, .cons (std_at r5 (Same.word s5 r1) (Same.ways s5 r4)) .nil⟩
      generalize upd (upd H4 x4 (.tup [V.ref w1, V.ref x3])) x5 (.lst [V.ref x4]) = H5 at s5 hF ⊢
      have s15 := s14.trans s5
      exact init_doneN (Same.word s15 ha) hF to sOk (tb.ext s15) (.of s15) k
    | some n =>
      have hn := ho n rfl
      rw [decide_eq_false (show ¬ noV (some n) = V.non from fun e => nomatch e)]
      refine iteF ?_
      refine ⟨_, rfl, (n : Int), 20, rfl, by omega, by omega, ?_⟩
      refine ⟨_, rfl, (n : Int), rfl, by omega, by omega, fun D hD => ?_⟩
      refine lc_it (walk_range (lo := 0) (n := n)) (fun i H' => Same H2 H' ∧ ∃ (vs : List V), H' D = some (.lst vs) ∧ Paired (LineM [D] H') vs ((List.range i).map (fun i => (([] : Word), waysFor tags sm (i + 1)))))
        ⟨same_new hD, [], upd_same, .nil⟩ (fun _ _ _ _ => True.intro) ?_ ?_
      · rintro i x H4 H5 hi ⟨s4, vs, dD, pr⟩ ⟨rfl, rfl⟩
        have tl : vs.length = i := by rw [Paired.length pr, List.length_map, List.length_range]
        refine ⟨rfl, by show 0 ≤ sizeLine; decide, fun w1 m1 => ?_⟩
        have s5 := same_new (o := .lst ([] : List V)) m1
        have r1 : WordAt (upd H5 w1 (.lst [])) w1 [] := upd_same
        have s25 := s4.trans s5
        have w1D : w1 ≠ D := (ne_of_none dD m1).symm
        have dD6 := s5 _ _ dD
        generalize upd H5 w1 (.lst []) = H6 at r1 s5 s25 dD6 ⊢
        refine ⟨_, rfl, _, rfl, _, rfl, _, _, rfl, rfl, a, b, tags, sm, i + 1, congrArg (fun t : Int => [V.ref a, V.ref b, V.int t]) (by omega), Same.word s25 ha2, Same.word s25 hs2, by omega, fun x3 H7 s7 n7 r7 => ?_⟩
        have r1 := Same.word s7 r1
        have x3D : x3 ≠ D := (ne_of_none dD6 n7).symm
        refine ⟨by show 2 ≤ sizeLine; decide, fun tt mt => ?_⟩
        have s8 := same_new (o := .tup [V.ref w1, V.ref x3]) mt
        have g0 : (upd H7 tt (.tup [V.ref w1, V.ref x3])) tt = some (.tup [V.ref w1, V.ref x3]) := upd_same
        have r1 := Same.word s8 r1
        have r7 := Same.ways s8 r7
        have s58 := s5.trans (s7.trans s8)
        generalize upd H7 tt (.tup [V.ref w1, V.ref x3]) = H8 at g0 r1 r7 s58 ⊢
        have dD8 := s58 _ _ dD
        refine ⟨vs, dD8, sz_lt (by omega), Same.mut (s4.trans s58) hD, vs ++ [.ref tt], upd_same, ?_⟩
        rw [List.range_succ, List.map_append]
        exact Paired.snoc (L2.Paired.mapP pr fun _ _ z => (z.same s58).upd (by simp) dD8) (LineM.upd ⟨tt, w1, x3, rfl, not1 w1D, not1 x3D, g0, r1, r7⟩ (by simp) dD8)
      · rintro H4 ⟨s4, vs, dD, pr⟩
        obtain ⟨ts, e1, pF⟩ := lineM_form pr
        have s24 := s12.trans s4
        have tl : vs.length = n := by rw [Paired.length pr, List.length_map, List.length_range]
        refine ⟨_, rfl, _, rfl, by show 0 ≤ sizeLine; decide, fun w1 m1 => ?_⟩
        have s5 := same_new (o := .lst ([] : List V)) m1
        have r1 : WordAt (upd H4 w1 (.lst [])) w1 [] := upd_same
        have s25 := s24.trans s5
        generalize upd H4 w1 (.lst []) = H5 at r1 s5 s25 ⊢
        refine ⟨_, rfl, a, tags, rfl, Same.word s25 ha, by omega, fun x6 H6 s6 n6 r6 => ?_⟩
        have r1 := Same.word s6 r1
        refine ⟨by show 2 ≤ sizeLine; decide, fun t2 m7 => ?_⟩
        have s7 := same_new (o := .tup [V.ref w1, V.ref x6]) m7
        have g2 : StdAt (upd H6 t2 (.tup [V.ref w1, V.ref x6])) t2 ([], List.replicate tags.length none) := std_at upd_same (Same.word s7 r1) (Same.ways s7 r6)
        have s47 := s5.trans (s6.trans s7)
        generalize upd H6 t2 (.tup [V.ref w1, V.ref x6]) = H7 at g2 s47 ⊢
        refine ⟨by show 1 ≤ sizeLine; decide, fun x8 m8 => ?_⟩
        have s8 := same_new (o := .lst [V.ref t2]) m8
        have k8 : (upd H7 x8 (.lst [V.ref t2])) x8 = some (.lst [V.ref t2]) := upd_same
        have g2 := Same.std s8 g2
        have s48 := s47.trans s8
        generalize upd H7 x8 (.lst [V.ref t2]) = H8 at k8 g2 s48 ⊢
        refine ⟨D, x8, _, _, rfl, rfl, s48 _ _ dD, k8, by rw [tl]; exact sz_le (by show n + 1 ≤ _; omega), fun x9 m9 => ?_⟩
        have s9 := same_new (o := .lst (vs ++ [V.ref t2])) m9
        have s49 := s48.trans s9
        have hF : FormAt (upd H8 x9 (.lst (vs ++ [V.ref t2]))) x9 (stripForm tags sm (some n)) := ⟨ts ++ [t2], by rw [upd_same, e1, List.map_append]; rfl, Paired.app (L2.Paired.mapP pF fun _ _ z => Same.std s49 z) (.cons (Same.std s9 g2) .nil)⟩
        generalize upd H8 x9 (.lst (vs ++ [V.ref t2])) = H9 at hF s49 ⊢
        have s29 := s24.trans s49
        exact init_doneN (Same.word s29 ha) hF to sOk (tb.ext s29) (.of s29) k
end
end Law
end

section
set_option Elab.async false
set_option linter.all false
set_option maxRecDepth 100000
set_option maxHeartbeats 4000000
namespace Law
open PySem PySem.Spec PyProof.Rows L2 LamX QB QM
section
variable {P : Program} {w : World} {K : PySem.W.Frag} {mg : Str → Option Value} {base : Heap}
def spExchange (T : List (Addr × Str)) (C : Addr) : Sp := fun vs H Q _ => ∃ (a b : Addr) (tags : Word) (ps : List (Str × Str)), vs = [.ref a, .ref b] ∧ WordAt H a tags ∧ PairsAt H b ps ∧ TagsOk tags ∧ (ps.map (·.1)).Nodup ∧ (∀ p ∈ ps, p.1 ∈ tags ∧ p.2 ∈ tags) ∧ ps.length ≤ 6 ∧ Tabs T H ∧
  ∀ (e dx a' b' : Addr) (L : List Tri) (H' : Hp), QB.Ext T H H' → Tabs T H' → EatN C H H' e dx a' b' L tags (least tags (exForm tags ps)) → Q (.ref e) H'
theorem ok_exchange (X : TX K mg) (TB : LamX.TabB base mg X.lam_c X.lam_P) : FnOk P w K mg base CX0 7 X.d_exchange.a X.d_exchange.fd ["tags", "pairs"] (spExchange (Tof X) X.c_Eater) := by
  have nd := sc_exchange.nd
  refine X.d_exchange.F.ok sc_exchange (fun vs H Q E h => ?_) (fun cdv A outer s0 H vs Q E hr h => ?_)
  · obtain ⟨a, b, tags, ps, rfl, _⟩ := h
    rfl
  · obtain ⟨a, b, tags, ps, rfl, ha, hb, to, hnd, hin, hul, tb, k⟩ := h
    refine ⟨_, (pss_cons (ps_expr (pe_call (ok_check_tags X) (hr.mono (by decide)) rfl X.d_check_tags.mg X.d_check_tags.F.kp X.d_check_tags.b .nil pass0 (pa_cons (pv 0) pa_nil))) (pss_cons (ps_expr (pe_call (ok_check_pairs X) (hr.mono (by decide)) rfl X.d_check_pairs.mg X.d_check_pairs.F.kp X.d_check_pairs.b .nil pass0 (pa_cons (pv 0) (pa_cons (pv 1) pa_nil)))) (pss_cons (ps_set (i := 2) nd rfl (Or.inl rfl) (pe_call (ok_no_ways X) (hr.mono (by decide)) rfl X.d_no_ways.mg X.d_no_ways.F.kp X.d_no_ways.b .nil pass0 (pa_cons (pv 0) pa_nil))) (pss_cons (ps_set (i := 3) nd rfl (Or.inl rfl) (pe_lst (pa_cons (pe_tup (pa_cons (pe_lst pa_nil) (pa_cons (pv 2) pa_nil))) pa_nil))) (pss_cons (ps_for PassesOwn.never rfl (QB.pi_listK K (pv 1)) (pg_tup (by rfl) (pgs_cons (pg_name (i := 4) nd rfl (Or.inl rfl)) (pgs_cons (pg_name (i := 5) nd rfl (Or.inl rfl)) (pgs_nil)))) (pss_cons (ps_asg (pe_callB (QB.call_lenK K) (by rfl) X.n_len PySem.boot_len (pa_cons (pv 3) pa_nil)) (pg_sub (pv 2) (QB.pe_bmK K PySem.F.plainAttrs_list PySem.F.slot_list_index PySem.F.type_list_index (QB.mt_indexK K) (pv 0) (pa_cons (pv 4) pa_nil)) set_list)) (pss_one (ps_expr (QB.pe_bmK K PySem.F.plainAttrs_list PySem.F.slot_list_append PySem.F.type_list_append mt_append (pv 3) (pa_cons (pe_tup (pa_cons (pe_lst (pa_cons (pv 5) pa_nil)) (pa_cons (pe_call (ok_no_ways X) (hr.mono (by decide)) rfl X.d_no_ways.mg X.d_no_ways.F.kp X.d_no_ways.b .nil pass0 (pa_cons (pv 0) pa_nil)) pa_nil))) pa_nil)))))) (pss_one (ps_ret (pe_make X.mk_Eater (ok_Eater___init__ X TB) (hr.mono (by decide)) rfl X.m_Eater X.d_Eater___init__.b .nil pass0 (pa_cons (pv 0) (pa_cons (pv 3) pa_nil)))))))))), ?_⟩
    try dsimp only [Cx.nox, Cx.wish, cxOf]
    have htl := to.len
    refine ⟨_, rfl, a, tags, rfl, ha, to, fun H1 s1 => ?_⟩
    refine ⟨_, rfl, _, rfl, a, b, tags, ps, rfl, Same.word s1 ha, hb.same s1, hnd, hin, hul, fun H2 s2 => ?_⟩
    have s12 := s1.trans s2
    obtain ⟨tz, hb, hps⟩ := hb
    have xl := Paired.length hps
    refine ⟨_, rfl, a, tags, rfl, Same.word s12 ha, by omega, fun y1 H3 s3 n3 r3 => ?_⟩
    have s13 := s12.trans s3
    have ny1 : H y1 = none := s12.free n3
    refine ⟨by show 0 ≤ sizeLine; decide, fun w1 m1 => ?_⟩
    have w1y : w1 ≠ y1 := (ne_of_none r3 m1).symm
    have s4 := same_new (o := .lst ([] : List V)) m1
    have q1 : WordAt (upd H3 w1 (.lst [])) w1 [] := upd_same
    have r3 := Same.ways s4 r3
    have s14 := s13.trans s4
    generalize upd H3 w1 (.lst []) = H4 at q1 r3 s14 ⊢
    refine ⟨_, rfl, by show 2 ≤ sizeLine; decide, fun t1 m2 => ?_⟩
    have s5 := same_new (o := .tup [V.ref w1, V.ref y1]) m2
    have g1 : (upd H4 t1 (.tup [V.ref w1, V.ref y1])) t1 = some (.tup [.ref w1, .ref y1]) := upd_same
    have q1 := Same.word s5 q1
    have r3 := Same.ways s5 r3
    have s15 := s14.trans s5
    generalize upd H4 t1 (.tup [V.ref w1, V.ref y1]) = H5 at g1 q1 r3 s15 ⊢
    refine ⟨by show 1 ≤ sizeLine; decide, fun D hD => ?_⟩
    have w1D : w1 ≠ D := ne_of_none q1 hD
    have y1D : y1 ≠ D := ne_of_none r3 hD
    have s6 := same_new (o := .lst [V.ref t1]) hD
    have kD : (upd H5 D (.lst [V.ref t1])) D = some (.lst (V.ref t1 :: [])) := upd_same
    have g1 := s6 _ _ g1
    have q1 := Same.word s6 q1
    have r3 := Same.ways s6 r3
    have nD : H D = none := s15.free hD
    have s16 := s15.trans s6
    generalize upd H5 D (.lst [V.ref t1]) = H6 at g1 q1 r3 kD s16 ⊢
    refine ⟨_, rfl, _, rfl, ⟨_, SqL.of (s16 _ _ hb)⟩, ?_⟩
    refine for_it (walk_list (K := K) (a := b) (xs := tz.map V.ref)) (fun j σ H' => ∃ (v4 v5 : Option V) (vs : List V), σ = [some (.ref a), some (.ref b), some (.ref y1), some (.ref D), v4, v5] ∧ Same H H' ∧ H' t1 = some (.tup [.ref w1, .ref y1]) ∧ WordAt H' w1 [] ∧
        H' y1 = some (.lst (vWs (exWays tags ps j))) ∧ H' D = some (.lst (V.ref t1 :: vs)) ∧ Paired (LineM [D, y1] H') vs ((ps.take j).map fun p => ([p.2], List.replicate tags.length none)))
      ⟨_, _, [], rfl, s16, g1, q1, r3, kD, .nil⟩ (fun j σ H' _ ⟨_, _, _, _, z, _⟩ => SqL.of (z _ _ hb)) ?_ ?_
    · rintro j x σ H7 H8 hj ⟨v4, v5, vs, rfl, s7, g7, q7, r7, d7, pr⟩ ⟨rfl, hx⟩
      rw [List.length_map] at hj
      have hti : tz[j]? = some tz[j] := List.getElem?_eq_getElem hj
      rw [List.getElem?_map, hti] at hx
      cases hx
      obtain ⟨p, hp, ht⟩ := paired_get' hps hti
      generalize tz[j] = tp at ht ⊢
      obtain ⟨i1, i2⟩ := hin p (List.mem_of_getElem? hp)
      have ht := s7 _ _ ht
      have vl : vs.length = j := by rw [Paired.length pr, List.length_map, List.length_take]; omega
      have wl := exWays_len (tags := tags) (ps := ps) j
      refine ⟨tp, _, rfl, SqT.of ht, rfl, _, _, rfl, _, _, rfl, rfl, ?_⟩
      refine ⟨_, rfl, _, _, rfl, .inl (SqL.of d7), ?_⟩
      refine ⟨_, rfl, _, rfl, .inl ⟨rfl, _, SqL.of (Same.word s7 ha)⟩, _, rfl, ?_⟩
      dsimp only [tNil]
      refine index_word (Same.word s7 ha) i1 ?_
      refine ⟨y1, _, _, tags.idxOf p.1, rfl, rfl, r7, ixN_of (by rw [vWs_len, wl]; exact List.idxOf_lt_length_of_mem i1), ?_⟩
      have el : (V.ref t1 :: vs).length = j + 1 := by rw [List.length_cons, vl]
      have ew : (vWs (exWays tags ps j)).set (tags.idxOf p.1) (V.int ((V.ref t1 :: vs).length : Int)) = vWs (exWays tags ps (j + 1)) := by
        rw [el, exWays_succ]
        unfold exStep vWs
        rw [hp, List.map_set]
        rfl
      generalize hH9 : upd H8 y1 _ = H9
      have k9 : H9 y1 = some (.lst (vWs (exWays tags ps (j + 1)))) := by
        rw [← hH9, upd_same, ew]
      have s9 : Same H H9 := by
        rw [← hH9]
        exact Same.mut s7 ny1
      have d9 : H9 D = some (.lst (V.ref t1 :: vs)) := by
        rw [← hH9, upd_ne y1D.symm]
        exact d7
      have g9 : H9 t1 = some (.tup [.ref w1, .ref y1]) := by
        rw [← hH9, upd_ne (ne_of g7 r7 (fun z => nomatch z))]
        exact g7
      have q9 : WordAt H9 w1 [] := by
        rw [← hH9]
        exact (upd_ne w1y).trans q7
      have pr9 : Paired (LineM [D, y1] H9) vs ((ps.take j).map fun p => ([p.2], List.replicate tags.length none)) := by
        rw [← hH9]
        exact L2.Paired.mapP pr fun _ _ z => z.upd (by simp) r7
      clear hH9
      refine ⟨_, rfl, .inl ⟨rfl, _, SqL.of d9⟩, ?_⟩
      refine ⟨_, rfl, by show 1 ≤ sizeLine; decide, fun w2 m3 => ?_⟩
      have s10 := same_new (o := .lst [V.str p.2]) m3
      have q2 : WordAt (upd H9 w2 (.lst [V.str p.2])) w2 [p.2] := upd_same
      have w2D : w2 ≠ D := (ne_of_none d9 m3).symm
      have w2y : w2 ≠ y1 := (ne_of_none k9 m3).symm
      generalize upd H9 w2 (.lst [V.str p.2]) = H10 at s10 q2 ⊢
      refine ⟨_, rfl, a, tags, rfl, Same.word (s9.trans s10) ha, by omega, fun y2 H11 s11 n11 r11 => ?_⟩
      have y2D : y2 ≠ D := (ne_of_none (s10 _ _ d9) n11).symm
      have y2y : y2 ≠ y1 := (ne_of_none (s10 _ _ k9) n11).symm
      have q2 := Same.word s11 q2
      refine ⟨by show 2 ≤ sizeLine; decide, fun t2 m4 => ?_⟩
      have s12' := same_new (o := .tup [V.ref w2, V.ref y2]) m4
      have g2 : (upd H11 t2 (.tup [V.ref w2, V.ref y2])) t2 = some (.tup [.ref w2, .ref y2]) := upd_same
      have q2 := Same.word s12' q2
      have r11 := Same.ways s12' r11
      have s912 := s10.trans (s11.trans s12')
      generalize upd H11 t2 (.tup [V.ref w2, V.ref y2]) = H12 at g2 q2 r11 s912 ⊢
      have d12 := s912 _ _ d9
      refine ⟨D, _, _, rfl, rfl, d12, by rw [el]; exact sz_lt (by omega), ?_⟩
      have two : ∀ {q : Addr}, q ≠ D → q ≠ y1 → q ∉ [D, y1] := fun h1 h2 z => by
        rcases List.mem_cons.mp z with z | z
        · exact h1 z
        · exact h2 (List.mem_singleton.mp z)
      refine ⟨_, _, vs ++ [.ref t2], rfl, Same.mut (s9.trans s912) nD, (upd_ne (ne_of (s912 _ _ g9) d12 (fun z => nomatch z))).trans (s912 _ _ g9), (upd_ne w1D).trans (s912 _ _ q9),
        (upd_ne y1D).trans (s912 _ _ k9), upd_same, ?_⟩
      rw [List.take_succ, hp, List.map_append]
      exact Paired.snoc (L2.Paired.mapP pr9 fun _ _ z => (z.same s912).upd (by simp) d12) (LineM.upd ⟨t2, w2, y2, rfl, two w2D w2y, two y2D y2y, g2, q2, r11⟩ (by simp) d12)
    · rintro σ H7 ⟨v4, v5, vs, rfl, s7, g7, q7, r7, d7, pr⟩
      rw [List.length_map, xl] at r7 pr
      rw [List.take_length] at pr
      obtain ⟨ts, e1, pF⟩ := lineM_form pr
      have hF : FormAt H7 D (exForm tags ps) := ⟨t1 :: ts, by rw [d7, e1]; rfl, .cons ⟨w1, y1, g7, q7, r7⟩ pF⟩
      refine ⟨_, rfl, _, rfl, ?_⟩
      exact init_doneN (Same.word s7 ha) hF to (exOk (fun p hp => (hin p hp).2) hul) (tb.ext s7) (.of s7) k
def spPress (T : List (Addr × Str)) (C : Addr) : Sp := fun vs H Q _ => ∃ (a : Addr) (tags : Word) (t : Str) (n : Nat), vs = [.ref a, .str t, .int (n : Int)] ∧ WordAt H a tags ∧ TagsOk tags ∧ t ∈ tags ∧ n ≤ 20 ∧ Tabs T H ∧
  ∀ (e dx a' b' : Addr) (L : List Tri) (H' : Hp), QB.Ext T H H' → Tabs T H' → EatN C H H' e dx a' b' L tags (least tags (pressForm tags t n)) → Q (.ref e) H'
theorem ok_press (X : TX K mg) (TB : LamX.TabB base mg X.lam_c X.lam_P) : FnOk P w K mg base CX0 8 X.d_press.a X.d_press.fd ["tags", "tag", "most"] (spPress (Tof X) X.c_Eater) := by
  have nd := sc_press.nd
  refine X.d_press.F.ok sc_press (fun vs H Q E h => ?_) (fun cdv A outer s0 H vs Q E hr h => ?_)
  · obtain ⟨a, tags, t, n, rfl, _⟩ := h
    rfl
  · obtain ⟨a, tags, t, n, rfl, ha, to, hin, hn, tb, k⟩ := h
    refine ⟨_, (pss_cons (ps_expr (pe_call (ok_check_tags X) (hr.mono (by decide)) rfl X.d_check_tags.mg X.d_check_tags.F.kp X.d_check_tags.b .nil pass0 (pa_cons (pv 0) pa_nil))) (pss_cons (ps_expr (pe_call (ok_check_tag X) (hr.mono (by decide)) rfl X.d_check_tag.mg X.d_check_tag.F.kp X.d_check_tag.b .nil pass0 (pa_cons (pv 0) (pa_cons (pv 1) pa_nil)))) (pss_cons (ps_expr (pe_call (ok_check_number X) (hr.mono (by decide)) rfl X.d_check_number.mg X.d_check_number.F.kp X.d_check_number.b .nil pass0 (pa_cons (pv 2) (pa_cons (pe_gc rfl X.c_LARGEST_MOST) pa_nil)))) (pss_cons (ps_setLc (i := 3) (own := [("left", 4)]) (g := gName 4) (tt := tYes) rfl nd rfl rfl (sw_true rfl rfl rfl (by decide +kernel)) (pi_range1 (by rfl) X.n_range (pa_cons (pv 2) pa_nil)) (blkOk_by (N := ["tags", "tag", "most", "standings", "left"]) (sc := defScope s_press) (by decide +kernel)) (fun _ _ _ _ _ => pg_name (i := 4) nd rfl (Or.inl rfl)) (fun _ _ _ _ _ => pts_nil) (fun _ _ _ _ _ => (pe_tup (pa_cons (pe_op op_rep (pe_lst (pa_cons (pv 1) pa_nil)) (pv 4)) (pa_cons (pe_call (ok_ways_for X) (hr.mono (by decide)) rfl X.d_ways_for.mg X.d_ways_for.F.kp X.d_ways_for.b .nil pass0 (pa_cons (pv 0) (pa_cons (pe_lst (pa_cons (pv 1) pa_nil)) (pa_cons (pe_op op_add (pv 4) pe_int) pa_nil)))) pa_nil))))) (pss_cons (ps_expr (QB.pe_bmK K PySem.F.plainAttrs_list PySem.F.slot_list_append PySem.F.type_list_append mt_append (pv 3) (pa_cons (pe_tup (pa_cons (pe_op op_rep (pe_lst (pa_cons (pv 1) pa_nil)) (pv 2)) (pa_cons (pe_call (ok_ways_for X) (hr.mono (by decide)) rfl X.d_ways_for.mg X.d_ways_for.F.kp X.d_ways_for.b .nil pass0 (pa_cons (pv 0) (pa_cons (pe_lst (pa_cons (pv 1) pa_nil)) (pa_cons (pv 2) pa_nil)))) pa_nil))) pa_nil))) (pss_one (ps_ret (pe_call (ok_eater_of X TB) (hr.mono (by decide)) rfl X.d_eater_of.mg X.d_eater_of.F.kp X.d_eater_of.b .nil pass0 (pa_cons (pv 0) (pa_cons (pe_call (ok_least_form X TB) (hr.mono (by decide)) rfl X.d_least_form.mg X.d_least_form.F.kp X.d_least_form.b .nil pass0 (pa_cons (pv 0) (pa_cons (pv 3) pa_nil))) pa_nil)))))))))), ?_⟩
    try dsimp only [Cx.nox, Cx.wish, cxOf]
    have htl := to.len
    refine ⟨_, rfl, a, tags, rfl, ha, to, fun H1 s1 => ?_⟩
    refine ⟨_, rfl, _, rfl, a, tags, t, rfl, Same.word s1 ha, hin, ?_⟩
    refine ⟨_, rfl, (n : Int), 20, rfl, by omega, by omega, ?_⟩
    have ha1 := Same.word s1 ha
    refine ⟨_, rfl, (n : Int), rfl, by omega, by omega, fun D hD => ?_⟩
    refine lc_it (walk_range (lo := 0) (n := n)) (fun i H' => Same H1 H' ∧ ∃ (vs : List V), H' D = some (.lst vs) ∧ Paired (LineM [D] H') vs ((List.range i).map (fun i => (List.replicate i t, waysFor tags [t] (i + 1)))))
      ⟨same_new hD, [], upd_same, .nil⟩ (fun _ _ _ _ => True.intro) ?_ ?_
    · rintro i x H4 H5 hi ⟨s4, vs, dD, pr⟩ ⟨rfl, rfl⟩
      have tl : vs.length = i := by rw [Paired.length pr, List.length_map, List.length_range]
      refine ⟨rfl, _, rfl, by show 1 ≤ sizeLine; decide, fun q1 m1 => ?_⟩
      have s5 := same_new (o := .lst [V.str t]) m1
      have r1 : (upd H5 q1 (.lst [V.str t])) q1 = some (.lst [V.str t]) := upd_same
      have dD6 := s5 _ _ dD
      generalize upd H5 q1 (.lst [V.str t]) = H6 at r1 s5 dD6 ⊢
      refine ⟨_, rfl, q1, 0 + (i : Int), _, rfl, rfl, r1, by omega, by omega, by show 1 * _ ≤ sizeLine; exact sz_le (by omega), fun w1 m2 => ?_⟩
      have w1D : w1 ≠ D := (ne_of_none dD6 m2).symm
      generalize hH7 : upd H6 w1 _ = H7
      have s7 : Same H6 H7 := by
        rw [← hH7]
        exact same_new m2
      have kw : WordAt H7 w1 (List.replicate i t) := by
        rw [← hH7]
        unfold WordAt vS
        rw [upd_same, show (0 + (i : Int)).toNat = i by omega, pt_rep, List.map_replicate]
      clear hH7
      have dD7 := s7 _ _ dD6
      have s57 := s5.trans s7
      refine ⟨_, rfl, _, rfl, by show 1 ≤ sizeLine; decide, fun q2 m3 => ?_⟩
      have s8 := same_new (o := .lst [V.str t]) m3
      have r2 : WordAt (upd H7 q2 (.lst [V.str t])) q2 [t] := upd_same
      have kw := Same.word s8 kw
      have dD8 := s8 _ _ dD7
      have s58 := s57.trans s8
      generalize upd H7 q2 (.lst [V.str t]) = H8 at r2 kw dD8 s58 ⊢
      refine ⟨_, rfl, _, _, rfl, rfl, a, q2, tags, [t], i + 1, congrArg (fun t : Int => [V.ref a, V.ref q2, V.int t]) (by omega), Same.word (s4.trans s58) ha1, r2, by omega, fun x3 H9 s9 n9 r9 => ?_⟩
      have kw := Same.word s9 kw
      have x3D : x3 ≠ D := (ne_of_none dD8 n9).symm
      refine ⟨by show 2 ≤ sizeLine; decide, fun tt mt => ?_⟩
      have s10 := same_new (o := .tup [V.ref w1, V.ref x3]) mt
      have g0 : (upd H9 tt (.tup [V.ref w1, V.ref x3])) tt = some (.tup [V.ref w1, V.ref x3]) := upd_same
      have kw := Same.word s10 kw
      have r9 := Same.ways s10 r9
      have s510 := s58.trans (s9.trans s10)
      generalize upd H9 tt (.tup [V.ref w1, V.ref x3]) = H10 at g0 kw r9 s510 ⊢
      have dD10 := s510 _ _ dD
      refine ⟨vs, dD10, sz_lt (by omega), Same.mut (s4.trans s510) hD, vs ++ [.ref tt], upd_same, ?_⟩
      rw [List.range_succ, List.map_append]
      exact Paired.snoc (L2.Paired.mapP pr fun _ _ z => (z.same s510).upd (by simp) dD10) (LineM.upd ⟨tt, w1, x3, rfl, not1 w1D, not1 x3D, g0, kw, r9⟩ (by simp) dD10)
    · rintro H4 ⟨s4, vs, dD, pr⟩
      have tl : vs.length = n := by rw [Paired.length pr, List.length_map, List.length_range]
      refine ⟨_, rfl, .inl ⟨rfl, _, SqL.of dD⟩, ?_⟩
      refine ⟨_, rfl, by show 1 ≤ sizeLine; decide, fun q1 m1 => ?_⟩
      have s5 := same_new (o := .lst [V.str t]) m1
      have r1 : (upd H4 q1 (.lst [V.str t])) q1 = some (.lst [V.str t]) := upd_same
      have dD6 := s5 _ _ dD
      generalize upd H4 q1 (.lst [V.str t]) = H6 at r1 s5 dD6 ⊢
      refine ⟨_, rfl, q1, (n : Int), _, rfl, rfl, r1, by omega, by omega, by show 1 * _ ≤ sizeLine; exact sz_le (by omega), fun w1 m2 => ?_⟩
      have w1D : w1 ≠ D := (ne_of_none dD6 m2).symm
      generalize hH7 : upd H6 w1 _ = H7
      have s7 : Same H6 H7 := by
        rw [← hH7]
        exact same_new m2
      have kw : WordAt H7 w1 (List.replicate n t) := by
        rw [← hH7]
        unfold WordAt vS
        rw [upd_same, Int.toNat_natCast, pt_rep, List.map_replicate]
      clear hH7
      have dD7 := s7 _ _ dD6
      have s57 := s5.trans s7
      refine ⟨_, rfl, _, rfl, by show 1 ≤ sizeLine; decide, fun q2 m3 => ?_⟩
      have s8 := same_new (o := .lst [V.str t]) m3
      have r2 : WordAt (upd H7 q2 (.lst [V.str t])) q2 [t] := upd_same
      have kw := Same.word s8 kw
      have dD8 := s8 _ _ dD7
      have s58 := s57.trans s8
      generalize upd H7 q2 (.lst [V.str t]) = H8 at r2 kw dD8 s58 ⊢
      refine ⟨_, rfl, a, q2, tags, [t], n, rfl, Same.word (s4.trans s58) ha1, r2, by omega, fun x3 H9 s9 n9 r9 => ?_⟩
      have kw := Same.word s9 kw
      have x3D : x3 ≠ D := (ne_of_none dD8 n9).symm
      refine ⟨by show 2 ≤ sizeLine; decide, fun tt mt => ?_⟩
      have s10 := same_new (o := .tup [V.ref w1, V.ref x3]) mt
      have g0 : (upd H9 tt (.tup [V.ref w1, V.ref x3])) tt = some (.tup [V.ref w1, V.ref x3]) := upd_same
      have kw := Same.word s10 kw
      have r9 := Same.ways s10 r9
      have s510 := s58.trans (s9.trans s10)
      generalize upd H9 tt (.tup [V.ref w1, V.ref x3]) = H10 at g0 kw r9 s510 ⊢
      have dD10 := s510 _ _ dD
      refine ⟨D, _, _, rfl, rfl, dD10, sz_lt (by omega), ?_⟩
      have pr2 : Paired (LineM [D] (upd H10 D (.lst (vs ++ [.ref tt])))) (vs ++ [.ref tt]) (pressForm tags t n) := Paired.snoc (L2.Paired.mapP pr fun _ _ z => (z.same s510).upd (by simp) dD10) (LineM.upd ⟨tt, w1, x3, rfl, not1 w1D, not1 x3D, g0, kw, r9⟩ (by simp) dD10)
      obtain ⟨ts, e1, pF⟩ := lineM_form pr2
      have s1D : Same H1 (upd H10 D (.lst (vs ++ [.ref tt]))) := Same.mut (s4.trans s510) hD
      have hF : FormAt (upd H10 D (.lst (vs ++ [.ref tt]))) D (pressForm tags t n) := ⟨ts, by rw [upd_same, e1], pF⟩
      generalize upd H10 D (.lst (vs ++ [.ref tt])) = H11 at s1D hF ⊢
      have s011 := s1.trans s1D
      have t11 := tb.ext s011
      refine ⟨_, rfl, _, rfl, _, rfl, a, D, tags, _, rfl, Same.word s011 ha, hF, press_good hin hn, press_words to hin hn, by omega, t11, fun p L H12 e12 t12 n12 => ?_⟩
      have e011 := QB.Ext.of (T := Tof X) s011
      refine ⟨a, p, tags, _, L, H, rfl, (e011.trans e12).word ha, to, n12.old e011, e011.trans e12, t12, fun e dx a' H' e' t' n' => k e dx a' p L H' e' t' n'⟩
end
end Law
end

section
set_option Elab.async false
set_option linter.all false
set_option maxRecDepth 100000
set_option maxHeartbeats 4000000
namespace Law
open PySem PySem.Spec PyProof.Rows L2 LamX QB QM
/-! what the makers' eaters make -/
theorem way_for {tags sm wd : Word} {n : Nat} {t : Str} (h : t ∈ tags) : way tags (wd, waysFor tags sm n) t = if t ∈ sm then some n else none := by
  have hlt : tags.idxOf t < tags.length := List.idxOf_lt_length_of_mem h
  unfold way waysFor ixOf
  show ((tags.map _)[tags.idxOf t]?).join = _
  rw [List.getElem?_map, List.getElem?_eq_getElem hlt, List.getElem_idxOf]
  rfl
theorem way_rep {tags wd : Word} {t : Str} : way tags (wd, List.replicate tags.length none) t = none := way_none fun x hx => List.eq_of_mem_replicate hx
theorem eff_rest {tags wd : Word} {F : Form} {k : Nat} (h : F[k]? = some (wd, List.replicate tags.length none)) (u : Word) : eff tags F k u = wd ++ u := by
  cases u with
  | nil =>
    show wordOf F k = _
    rw [wordOf_of h, List.append_nil]
  | cons t u => rw [eff_cons, wayAt_of h, way_rep, wordOf_of h]
/-- how many tags are taken -/
def cnt (sm : Word) : Option Nat → Word → Nat
  | _, [] => 0
  | o, t :: w => if t ∈ sm ∧ o ≠ some 0 then cnt sm (o.map (· - 1)) w + 1 else 0
theorem cnt_go {sm : Word} {o : Option Nat} {t : Str} {w : Word} (h : t ∈ sm) (ho : o ≠ some 0) : cnt sm o (t :: w) = cnt sm (o.map (· - 1)) w + 1 := by
  show (if _ then _ else _) = _
  rw [if_pos ⟨h, ho⟩]
theorem cnt_no {sm : Word} {o : Option Nat} {t : Str} {w : Word} (h : ¬ (t ∈ sm ∧ o ≠ some 0)) : cnt sm o (t :: w) = 0 := by
  show (if _ then _ else _) = _
  rw [if_neg h]
theorem cnt_le {sm : Word} : ∀ (w : Word) (o : Option Nat), cnt sm o w ≤ w.length
  | [], _ => Nat.le_refl _
  | t :: w, o => by
    by_cases h : t ∈ sm ∧ o ≠ some 0
    · rw [cnt_go h.1 h.2]
      exact Nat.succ_le_succ (cnt_le w _)
    · rw [cnt_no h]
      exact Nat.zero_le _
/-- as the law counts: one more -/
theorem cnt_more {sm : Word} : ∀ (c : Nat) (w : Word) (o : Option Nat), (∀ i t, i < c → w[i]? = some t → t ∈ sm ∧ ∀ n, o = some n → i < n) → c ≤ w.length → (∀ t, w[c]? = some t → ¬ (t ∈ sm ∧ ∀ n, o = some n → c < n)) → cnt sm o w = c
  | 0, [], _, _, _, _ => rfl
  | c + 1, [], _, _, h, _ => by cases h
  | 0, t :: w, o, _, _, h => cnt_no fun z => h t rfl ⟨z.1, fun n e => by
      rcases Nat.eq_zero_or_pos n with z0 | z0
      · rw [z0] at e
        exact absurd e z.2
      · exact z0⟩
  | c + 1, t :: w, o, h1, h2, h3 => by
    have a := h1 0 t (by omega) rfl
    have ho : o ≠ some 0 := fun e => absurd (a.2 0 e) (Nat.lt_irrefl 0)
    rw [cnt_go a.1 ho]
    have pr : ∀ n, o.map (· - 1) = some n → o = some (n + 1) := fun n e => by
      cases o with
      | none => cases e
      | some m =>
        have e : m - 1 = n := Option.some.inj e
        have : m ≠ 0 := fun z => ho (by rw [z])
        rw [show m = n + 1 by omega]
    rw [cnt_more c w _ (fun i u hi e => by
      have b := h1 (i + 1) u (by omega) e
      exact ⟨b.1, fun n en => by have := b.2 _ (pr n en); omega⟩) (Nat.le_of_succ_le_succ h2) (fun u e z => h3 u e ⟨z.1, fun n en => by
        cases n with
        | zero => exact absurd en ho
        | succ n => exact Nat.succ_lt_succ (z.2 n (by rw [en]; rfl))⟩)]
/-! keep, put -/
theorem put_make {tags wd : Word} {u : Word} : make tags [(wd, List.replicate tags.length none)] u = wd ++ u := by
  rw [make_eff]
  exact eff_rest rfl u
/-! strip -/
theorem strip_none {tags sm : Word} : ∀ (u : Word), (∀ t ∈ u, t ∈ tags) → eff tags [([], waysFor tags sm 0)] 0 u = u.drop (cnt sm none u)
  | [], _ => rfl
  | t :: u, h => by
    rw [eff_cons, wayAt_of (s := ([], waysFor tags sm 0)) rfl, way_for (h t List.mem_cons_self)]
    by_cases e : t ∈ sm
    · rw [if_pos e, cnt_go (o := none) e (by decide)]
      exact strip_none u fun x hx => h x (List.mem_cons_of_mem _ hx)
    · rw [if_neg e, cnt_no (fun z => e z.1)]
      rfl
theorem strip_at {tags sm : Word} {n k : Nat} (h : k < n) : (stripForm tags sm (some n))[k]? = some ([], waysFor tags sm (k + 1)) := by
  show (_ ++ _)[k]? = _
  rw [List.getElem?_append_left (by rw [List.length_map, List.length_range]; exact h), List.getElem?_map, List.getElem?_range h]
  rfl
theorem strip_last {tags sm : Word} {n : Nat} : (stripForm tags sm (some n))[n]? = some ([], List.replicate tags.length none) := by
  show (_ ++ _)[n]? = _
  rw [List.getElem?_append_right (by rw [List.length_map, List.length_range]; exact Nat.le_refl _), List.length_map, List.length_range, Nat.sub_self]
  rfl
theorem strip_some {tags sm : Word} {n : Nat} : ∀ (u : Word) (k : Nat), k ≤ n → (∀ t ∈ u, t ∈ tags) → eff tags (stripForm tags sm (some n)) k u = u.drop (cnt sm (some (n - k)) u)
  | [], k, hk, _ => by
    show wordOf _ k = []
    rcases Nat.lt_or_ge k n with z | z
    · rw [wordOf_of (strip_at z)]
    · rw [Nat.le_antisymm hk z, wordOf_of strip_last]
  | t :: u, k, hk, h => by
    rcases Nat.lt_or_ge k n with z | z
    · rw [eff_cons, wayAt_of (strip_at z), way_for (h t List.mem_cons_self), wordOf_of (strip_at z)]
      by_cases e : t ∈ sm
      · rw [if_pos e, cnt_go e (fun y => by have := Option.some.inj y; omega)]
        show eff _ _ (k + 1) u = u.drop (cnt sm (some (n - k - 1)) u)
        rw [strip_some u (k + 1) z fun x hx => h x (List.mem_cons_of_mem _ hx), Nat.sub_sub]
      · rw [if_neg e, cnt_no (fun z => e z.1)]
        rfl
    · have hk : k = n := Nat.le_antisymm hk z
      subst hk
      rw [eff_rest strip_last, Nat.sub_self, cnt_no (fun z => z.2 rfl)]
      rfl
theorem strip_make {tags sm : Word} {o : Option Nat} {u : Word} (h : ∀ t ∈ u, t ∈ tags) : make tags (stripForm tags sm o) u = u.drop (cnt sm o u) := by
  rw [make_eff]
  cases o with
  | none => exact strip_none u h
  | some n => exact strip_some u 0 (Nat.zero_le _) h
/-! once -/
theorem once_make {tags : Word} {t : Str} {u : Word} (h : ∀ x ∈ u, x ∈ tags) : make tags (onceForm tags t) u = t :: u.drop (cnt [t] (some 1) u) := by
  rw [make_eff]
  cases u with
  | nil => rfl
  | cons x u =>
    rw [eff_cons, wayAt_of (F := onceForm tags t) (k := 0) (s := ([t], waysFor tags [t] 1)) rfl, way_for (h x List.mem_cons_self)]
    by_cases e : x ∈ [t]
    · rw [if_pos e, cnt_go (o := some 1) e (by decide)]
      have z : cnt [t] ((some 1).map (· - 1)) u = 0 := by
        cases u with
        | nil => rfl
        | cons y u => exact cnt_no fun z => z.2 rfl
      rw [z]
      exact eff_rest (F := onceForm tags t) (k := 1) rfl u
    · rw [if_neg e, cnt_no (fun z => e z.1)]
      rfl
/-! press -/
theorem press_at {tags : Word} {t : Str} {n k : Nat} (h : k < n) : (pressForm tags t n)[k]? = some (List.replicate k t, waysFor tags [t] (k + 1)) := by
  unfold pressForm
  rw [List.getElem?_append_left (by rw [List.length_map, List.length_range]; exact h), List.getElem?_map, List.getElem?_range h]
  rfl
theorem press_last {tags : Word} {t : Str} {n : Nat} : (pressForm tags t n)[n]? = some (List.replicate n t, waysFor tags [t] n) := by
  unfold pressForm
  rw [List.getElem?_append_right (by rw [List.length_map, List.length_range]; exact Nat.le_refl _), List.length_map, List.length_range, Nat.sub_self]
  rfl
theorem press_eff {tags : Word} {t : Str} {n : Nat} : ∀ (u : Word) (k : Nat), k ≤ n → (∀ x ∈ u, x ∈ tags) → eff tags (pressForm tags t n) k u = (List.replicate k t ++ u).drop (k + cnt [t] none u - n)
  | [], k, hk, _ => by
    show wordOf _ k = _
    have e : cnt [t] none [] = 0 := rfl
    rw [e, Nat.add_zero, Nat.sub_eq_zero_of_le hk, List.drop_zero, List.append_nil]
    rcases Nat.lt_or_ge k n with z | z
    · rw [wordOf_of (press_at z)]
    · rw [Nat.le_antisymm hk z, wordOf_of press_last]
  | x :: u, k, hk, h => by
    have hu : ∀ y ∈ u, y ∈ tags := fun y hy => h y (List.mem_cons_of_mem _ hy)
    have rep : ∀ k, List.replicate k t ++ t :: u = List.replicate (k + 1) t ++ u := fun k => by rw [List.replicate_succ', List.append_assoc]; rfl
    by_cases e : x ∈ [t]
    · have ex : x = t := List.mem_singleton.mp e
      subst ex
      rw [cnt_go (o := none) e (by decide)]
      show _ = (List.replicate k x ++ x :: u).drop (k + (cnt [x] none u + 1) - n)
      rcases Nat.lt_or_ge k n with z | z
      · rw [eff_cons, wayAt_of (press_at z), way_for (h x List.mem_cons_self), if_pos e]
        show eff _ _ (k + 1) u = _
        rw [press_eff u (k + 1) z hu, rep, show k + 1 + cnt [x] none u - n = k + (cnt [x] none u + 1) - n by omega]
      · have hk : k = n := Nat.le_antisymm hk z
        subst hk
        rw [eff_cons, wayAt_of press_last, way_for (h x List.mem_cons_self), if_pos e]
        show eff _ _ k u = _
        rw [press_eff u k (Nat.le_refl _) hu, rep, List.replicate_succ, show k + (cnt [x] none u + 1) - k = (k + cnt [x] none u - k) + 1 by omega]
        rfl
    · rw [cnt_no (fun z => e z.1), Nat.add_zero, Nat.sub_eq_zero_of_le hk, List.drop_zero]
      rcases Nat.lt_or_ge k n with z | z
      · rw [eff_cons, wayAt_of (press_at z), way_for (h x List.mem_cons_self), if_neg e, wordOf_of (press_at z)]
      · rw [Nat.le_antisymm hk z, eff_cons, wayAt_of press_last, way_for (h x List.mem_cons_self), if_neg e, wordOf_of press_last]
theorem press_make {tags : Word} {t : Str} {n : Nat} {u : Word} (h : ∀ x ∈ u, x ∈ tags) : make tags (pressForm tags t n) u = u.drop (cnt [t] none u - n) := by
  rw [make_eff, press_eff u 0 (Nat.zero_le _) h, Nat.zero_add]
  rfl
/-! exchange -/
def exch (ps : List (Str × Str)) : Word → Word
  | [] => []
  | t :: w => match ps.find? (fun p => decide (p.1 = t)) with
    | some p => p.2 :: w
    | none => t :: w
theorem exch_cons {ps : List (Str × Str)} {t : Str} {w : Word} : exch ps (t :: w) = match ps.find? (fun p => decide (p.1 = t)) with
    | some p => p.2 :: w
    | none => t :: w := rfl
theorem find_at {ps : List (Str × Str)} (nd : (ps.map (·.1)).Nodup) {j : Nat} {p : Str × Str} (h : ps[j]? = some p) : ps.find? (fun q => decide (q.1 = p.1)) = some p := by
  induction ps generalizing j with
  | nil => cases h
  | cons q ps ih =>
    have nd' : q.1 ∉ ps.map (·.1) ∧ (ps.map (·.1)).Nodup := List.nodup_cons.mp nd
    cases j with
    | zero =>
      cases h
      exact List.find?_cons_of_pos (by simp)
    | succ j =>
      have h : ps[j]? = some p := h
      rw [List.find?_cons_of_neg (by
        simp only [decide_eq_true_eq]
        exact fun e => nd'.1 (e ▸ List.mem_map_of_mem (List.mem_of_getElem? h)))]
      exact ih nd'.2 h
theorem ex_way {tags : Word} {ps : List (Str × Str)} (nd : (ps.map (·.1)).Nodup) (hin : ∀ p ∈ ps, p.1 ∈ tags) {t : Str} (ht : t ∈ tags) : ∀ n, n ≤ ps.length →
    (∀ j p, j < n → ps[j]? = some p → p.1 = t → way tags ([], exWays tags ps n) t = some (j + 1)) ∧ ((∀ j p, j < n → ps[j]? = some p → p.1 ≠ t) → way tags ([], exWays tags ps n) t = none)
  | 0, _ => ⟨fun j p h => absurd h (by omega), fun _ => way_rep⟩
  | n + 1, hn => by
    have i := ex_way nd hin ht n (by omega)
    have hlt : tags.idxOf t < tags.length := List.idxOf_lt_length_of_mem ht
    have hp : ps[n]? = some (ps[n]'(by omega)) := List.getElem?_eq_getElem _
    generalize ps[n]'(by omega) = p at hp
    have e : exWays tags ps (n + 1) = (exWays tags ps n).set (tags.idxOf p.1) (some (n + 1)) := by
      rw [exWays_succ]
      unfold exStep
      rw [hp]
    have pin := hin p (List.mem_of_getElem? hp)
    by_cases et : p.1 = t
    · have w : way tags ([], exWays tags ps (n + 1)) t = some (n + 1) := by
        unfold way ixOf
        show ((exWays tags ps (n + 1))[tags.idxOf t]?).join = _
        rw [e, et, List.getElem?_set_self (by rw [exWays_len]; exact hlt)]
        rfl
      refine ⟨fun j q hj hq eq => ?_, fun h => absurd et (h n p (by omega) hp)⟩
      have : j = n := by
        have a : (ps.map (·.1))[j]? = some t := by rw [List.getElem?_map, hq, ← eq]; rfl
        have b : (ps.map (·.1))[n]? = some t := by rw [List.getElem?_map, hp, ← et]; rfl
        exact (List.getElem?_inj (by rw [List.length_map]; omega) nd).mp (a.trans b.symm)
      rw [w, this]
    · have w : way tags ([], exWays tags ps (n + 1)) t = way tags ([], exWays tags ps n) t := by
        unfold way ixOf
        show ((exWays tags ps (n + 1))[tags.idxOf t]?).join = ((exWays tags ps n)[tags.idxOf t]?).join
        rw [e, List.getElem?_set_ne (fun z => et (QM.idxOf_inj' pin ht z))]
      rw [w]
      refine ⟨fun j q hj hq eq => ?_, fun h => i.2 fun j q hj hq => h j q (by omega) hq⟩
      rcases Nat.lt_or_ge j n with z | z
      · exact i.1 j q z hq eq
      · have : j = n := by omega
        subst this
        rw [hp] at hq
        cases hq
        exact absurd eq et
theorem ex_make {tags : Word} {ps : List (Str × Str)} (nd : (ps.map (·.1)).Nodup) (hin : ∀ p ∈ ps, p.1 ∈ tags) {u : Word} (h : ∀ x ∈ u, x ∈ tags) : make tags (exForm tags ps) u = exch ps u := by
  rw [make_eff]
  cases u with
  | nil => rfl
  | cons x u =>
    have w := ex_way nd hin (h x List.mem_cons_self) ps.length (Nat.le_refl _)
    rw [eff_cons, wayAt_of (F := exForm tags ps) (k := 0) (s := ([], exWays tags ps ps.length)) rfl]
    by_cases z : ∃ (j : Nat) (p : Str × Str), ps[j]? = some p ∧ p.1 = x
    · obtain ⟨j, p, hj, e⟩ := z
      rw [w.1 j p (List.getElem?_eq_some_iff.mp hj).1 hj e]
      show eff tags (exForm tags ps) (j + 1) u = _
      rw [eff_rest (wd := [p.2]) (by show (_ :: ps.map _)[j + 1]? = _; rw [List.getElem?_cons_succ, List.getElem?_map, hj]; rfl)]
      subst e
      rw [exch_cons, find_at nd hj]
      rfl
    · rw [w.2 fun j p _ hj e => z ⟨j, p, hj, e⟩]
      rw [exch_cons, List.find?_eq_none.mpr fun p hp => by
        simp only [decide_eq_true_eq]
        intro e
        obtain ⟨j, hj⟩ := List.getElem?_of_mem hp
        exact z ⟨j, p, hj, e⟩]
      rfl
end Law
end

section
set_option Elab.async false
set_option linter.all false
set_option maxRecDepth 100000
set_option maxHeartbeats 4000000
namespace Law
open PySem PySem.Spec PyProof.Rows L2 LamX QB QM
section
variable {P : Program} {w : World} {K : PySem.W.Frag} {mg : Str → Option Value} {base : Heap}

/-! ### what stays, but for some lists -/
def Exc (M : List Addr) (H H' : Hp) : Prop := ∀ a o, a ∉ M → H a = some o → H' a = some o
theorem Exc.refl {M : List Addr} {H : Hp} : Exc M H H := fun _ _ _ h => h
theorem Exc.trans {M : List Addr} {H H1 H2 : Hp} (a : Exc M H H1) (b : Exc M H1 H2) : Exc M H H2 := fun c o n h => b c o n (a c o n h)
theorem Exc.of {M : List Addr} {H H' : Hp} (a : Same H H') : Exc M H H' := fun c o _ h => a c o h
theorem Exc.mono {M N : List Addr} {H H' : Hp} (a : Exc M H H') (h : ∀ x ∈ M, x ∈ N) : Exc N H H' := fun c o n e => a c o (fun z => n (h c z)) e
theorem Exc.new {M : List Addr} {H H' : Hp} {p : Addr} {o : HO} (a : Exc M H H') (h : H' p = none) : Exc M H (upd H' p o) := a.trans (.of (same_new h))
theorem Exc.mut {M : List Addr} {H H' : Hp} {p : Addr} {o : HO} (a : Exc M H H') (h : p ∈ M ∨ H p = none) : Exc M H (upd H' p o) := fun c u n e => by
  have : c ≠ p := fun z => by
    subst z
    rcases h with h | h
    · exact n h
    · rw [h] at e
      cases e
  rw [upd_ne this]
  exact a c u n e
theorem Exc.free {M : List Addr} {H H' : Hp} {p : Addr} (a : Exc M H H') (h : H' p = none) (n : p ∉ M) : H p = none := by
  cases e : H p with
  | none => rfl
  | some o =>
    rw [a p o n e] at h
    cases h
/-- the pile of draws -/
def PileAt (H : Hp) (p : Addr) : Prop := ∃ d c n : Int, H p = some (.lst [.int d, .int c, .int n])
theorem PileAt.free {H H' : Hp} {p q : Addr} (a : Exc [p] H H') (h : PileAt H p) (h' : PileAt H' p) (e : H' q = none) : H q = none := by
  have : q ≠ p := fun z => by
    subst z
    obtain ⟨_, _, _, h⟩ := h'
    rw [h] at e
    cases e
  exact a.free e (by simpa using this)

def spMixed : Sp := fun vs H Q _ => ∃ c k : Int, vs = [.int c, .int k] ∧ ∀ r : Int, Q (.int r) H
theorem emod_lt {i j : Int} (h : 0 < j) : 0 ≤ i % j ∧ i % j < j := ⟨Int.emod_nonneg i (by omega), Int.emod_lt_of_pos i h⟩
theorem ok__law_mixed (X : TX K mg) : FnOk P w K mg base CX0 1 X.d__law_mixed.a X.d__law_mixed.fd ["cell", "k"] spMixed := by
  have nd := sc__law_mixed.nd
  refine X.d__law_mixed.F.ok sc__law_mixed (fun vs H Q E h => ?_) (fun cdv A outer s H vs Q E hr h => ?_)
  · obtain ⟨c, k, rfl, _⟩ := h
    rfl
  · obtain ⟨c, k, rfl, q⟩ := h
    refine ⟨_, (pss_cons (ps_set (i := 2) nd rfl (Or.inl rfl) (pe_op op_mod (pe_callTy call_int1 (by rfl) X.n_int QB.bo_int (pa_cons (pe_op op_add (pe_op op_add (pe_op op_mul (pe_op op_mod (pe_callTy call_int1 (by rfl) X.n_int QB.bo_int (pa_cons (pv 0) pa_nil)) pe_int) pe_int) (pe_op op_mul (pv 1) pe_int)) pe_int) pa_nil)) pe_int)) (pss_cons (ps_set (i := 2) nd rfl (Or.inl rfl) (pe_op op_mod (pe_callTy call_int1 (by rfl) X.n_int QB.bo_int (pa_cons (pe_op op_mul (pv 2) (pv 2)) pa_nil)) pe_int)) (pss_one (ps_ret (pe_op op_fdiv (pe_op op_mod (pe_callTy call_int1 (by rfl) X.n_int QB.bo_int (pa_cons (pe_op op_mul (pv 2) (pv 2)) pa_nil)) pe_int) pe_int))))), ?_⟩
    try dsimp only [Cx.nox, Cx.wish, cxOf]
    have m1 : (0 : Int) < 2147483647 := by decide
    have m2 : (0 : Int) < 2147483629 := by decide
    have m3 : (0 : Int) < 2147483587 := by decide
    refine ⟨_, rfl, .inl ⟨_, rfl, _, _, rfl, rfl, m1, _, _, rfl, rfl, .inr ⟨by decide, by decide⟩, _, rfl, _, _, rfl, rfl, .inr ⟨by decide, by decide⟩, _, _, rfl, rfl, _, _, rfl, rfl, .inl ⟨_, rfl, _, _, rfl, rfl, m1, ?_⟩⟩⟩
    refine ⟨_, rfl, _, rfl, _, _, rfl, rfl, ?_, .inl ⟨_, rfl, _, _, rfl, rfl, m2, ?_⟩⟩
    · have := emod_lt (i := c % 2147483647 * 48271 + k * 69621 + 11) m1
      refine .inl ⟨?_, ?_⟩ <;> omega
    refine ⟨_, rfl, _, rfl, _, _, rfl, rfl, ?_, .inl ⟨_, rfl, _, _, rfl, rfl, m3, ?_⟩⟩
    · have := emod_lt (i := (c % 2147483647 * 48271 + k * 69621 + 11) % 2147483647 * ((c % 2147483647 * 48271 + k * 69621 + 11) % 2147483647)) m2
      refine .inl ⟨?_, ?_⟩ <;> omega
    exact ⟨_, _, rfl, rfl, ⟨by decide, by decide⟩, q _⟩
theorem mul50 : CMulW ((10 : Int) ^ Int.toNat 50) ((10 : Int) ^ Int.toNat 50) := wide_mul (a := 200) (b := 200) (by decide +kernel) (by decide +kernel) (by decide) (by decide) (by decide)
theorem mul100 : CMulW ((10 : Int) ^ Int.toNat 50 * (10 : Int) ^ Int.toNat 50) ((10 : Int) ^ Int.toNat 50) := wide_mul (a := 400) (b := 200) (by decide +kernel) (by decide +kernel) (by decide) (by decide) (by decide)
theorem pos150 : (0 : Int) < (10 : Int) ^ Int.toNat 50 * (10 : Int) ^ Int.toNat 50 * (10 : Int) ^ Int.toNat 50 := by decide +kernel
def spPile (K : PySem.W.Frag) : Sp := fun vs H Q _ => ∃ (l : Addr) (ns : List Int) (k : Nat), vs = [.ref l, .int (k : Int)] ∧ SqL K H l (ns.map V.int) ∧ ∀ (p : Addr) (H' : Hp), Same H H' → H p = none → PileAt H' p → Q (.ref p) H'
theorem ok__law_pile (X : TX K mg) : FnOk P w K mg base CX0 3 X.d__law_pile.a X.d__law_pile.fd ["script", "k"] (spPile K) := by
  have nd := sc__law_pile.nd
  refine X.d__law_pile.F.ok sc__law_pile (fun vs H Q E h => ?_) (fun cdv A outer s H vs Q E hr h => ?_)
  · obtain ⟨l, ns, k, rfl, _⟩ := h
    rfl
  · obtain ⟨l, ns, k, rfl, hl, q⟩ := h
    refine ⟨_, (pss_cons (ps_set (i := 2) nd rfl (Or.inl rfl) pe_int) (pss_cons (ps_if (pt_cmpR op_lt (pv 1) (pe_callB (QB.call_lenK K) (by rfl) X.n_len PySem.boot_len (pa_cons (pv 0) pa_nil)) (nomark _)) (pss_one (ps_set (i := 2) nd rfl (Or.inl rfl) (pe_ix (QB.ix_listK K) (pv 0) (pv 1) (fun _ _ => rfl)))) pss_nil) (pss_cons (ps_set (i := 3) nd rfl (Or.inl rfl) (pe_ix (QB.ix_listK K) (pe_lst (pa_cons pe_int (pa_cons (pe_op op_mod (pe_callTy call_int1 (by rfl) X.n_int QB.bo_int (pa_cons (pv 2) pa_nil)) (pe_op op_mulW (pe_op op_mulW (pe_op op_pow pe_int pe_int) (pe_op op_pow pe_int pe_int)) (pe_op op_pow pe_int pe_int))) pa_nil))) (pe_callTy call_int1 (by rfl) X.n_int QB.bo_int (pa_cons (pe_cmpR op_ge (pe_callB call_abs (by rfl) X.n_abs QB.bo_abs (pa_cons (pv 2) pa_nil)) (pe_op op_pow pe_int pe_int) (nomark _)) pa_nil)) (fun _ _ => rfl))) (pss_one (ps_ret (pe_lst (pa_cons (pv 3) (pa_cons (pe_op op_mod (pe_callTy call_int1 (by rfl) X.n_int QB.bo_int (pa_cons (pv 2) pa_nil)) pe_int) (pa_cons (pe_op op_mul pe_int (pv 1)) pa_nil))))))))), ?_⟩
    try dsimp only [Cx.nox, Cx.wish, cxOf]
    refine ⟨_, rfl, _, rfl, _, _, rfl, .inl hl, ?_⟩
    refine ⟨_, _, rfl, rfl, _, rfl, ?_⟩
    by_cases hj : k < ns.length
    case' pos =>
      rw [decide_eq_true (by rw [List.length_map]; omega)]
      refine iteT ?_
      refine ⟨_, rfl, _, rfl, l, ns.map V.int, (k : Int), _, rfl, rfl, hl, atI_nat (v := V.int (ns[k]'hj)) (by rw [List.getElem?_map, List.getElem?_eq_getElem hj]; rfl), ?_⟩
      generalize ns[k]'hj = c
    case' neg =>
      rw [decide_eq_false (by rw [List.length_map]; omega)]
      refine iteF ?_
    all_goals
      refine ⟨_, rfl, .inl ⟨_, rfl, ?_⟩⟩
      refine ⟨_, _, rfl, rfl, ⟨by decide, by decide, by decide⟩, _, _, rfl, rfl, ⟨by decide, by decide, by decide⟩, _, _, rfl, rfl, mul50, _, _, rfl, rfl, ⟨by decide, by decide, by decide⟩, _, _, rfl, rfl, mul100, _, _, rfl, rfl, pos150, ?_⟩
      refine ⟨by show 2 ≤ sizeLine; decide, fun t ht => ?_⟩
      have s1 : ∀ o, Same H (upd H t o) := fun o => same_new ht
      refine ⟨_, rfl, _, rfl, _, _, rfl, rfl, ⟨by decide, by decide, by decide⟩, _, _, rfl, rfl, .inr ⟨_, rfl, ?_⟩⟩
      generalize decide ((10 : Int) ^ Int.toNat 18 ≤ _) = bb
      cases bb <;>
      · refine ⟨t, _, _, _, rfl, rfl, SqL.of upd_same, rfl, ?_⟩
        refine ⟨_, rfl, _, rfl, .inl ⟨_, rfl, _, _, rfl, rfl, by show (0 : Int) < 2147483647; decide, _, rfl, _, _, rfl, rfl, .inl ⟨by decide, by decide⟩, by show 3 ≤ sizeLine; decide, fun p hp => ?_⟩⟩
        exact q p _ (Same.new (s1 _) hp) ((s1 _).free hp) ⟨_, _, _, upd_same⟩
def spTake : Sp := fun vs H Q _ => ∃ (p : Addr) (m : Nat), vs = [.ref p, .int (m : Int)] ∧ 0 < m ∧ m ≤ 1000 ∧ PileAt H p ∧ ∀ (r : Nat) (H' : Hp), r < m → Exc [p] H H' → PileAt H' p → Q (.int (r : Int)) H'
theorem nat_of_mod {i : Int} {m : Nat} (h : 0 < m) : ∃ r : Nat, r < m ∧ i % (m : Int) = (r : Int) := by
  have := emod_lt (i := i) (show (0 : Int) < (m : Int) by omega)
  exact ⟨(i % (m : Int)).toNat, by omega, by omega⟩
theorem ok__law_take (X : TX K mg) : FnOk P w K mg base CX0 3 X.d__law_take.a X.d__law_take.fd ["pile", "many"] spTake := by
  have nd := sc__law_take.nd
  refine X.d__law_take.F.ok sc__law_take (fun vs H Q E h => ?_) (fun cdv A outer s H vs Q E hr h => ?_)
  · obtain ⟨p, m, rfl, _⟩ := h
    rfl
  · obtain ⟨p, m, rfl, m0, m1, ⟨d, c, n, hp⟩, q⟩ := h
    refine ⟨_, (pss_cons (ps_if (pt_cmpR (QB.op_inK K) (pe_ix (QB.ix_listK K) (pv 0) pe_int (fun _ _ => rfl)) (pe_lst (pa_cons pe_int (pa_cons (pe_un un_neg pe_int) pa_nil))) rfl) (pss_cons (ps_asg (pe_op op_add (pe_ix (QB.ix_listK K) (pv 0) pe_int (fun _ _ => rfl)) pe_int) (pg_sub (pv 0) pe_int set_list)) (pss_one (ps_ret (pe_op op_mod (pe_callTy call_int1 (by rfl) X.n_int QB.bo_int (pa_cons (pe_call (ok__law_mixed X) (hr.mono (by decide)) rfl X.d__law_mixed.mg X.d__law_mixed.F.kp X.d__law_mixed.b .nil pass0 (pa_cons (pe_ix (QB.ix_listK K) (pv 0) pe_int (fun _ _ => rfl)) (pa_cons (pe_ix (QB.ix_listK K) (pv 0) pe_int (fun _ _ => rfl)) pa_nil))) pa_nil)) (pv 1))))) pss_nil) (pss_cons (ps_set (i := 2) nd rfl (Or.inl rfl) (pe_op op_mod (pe_callTy call_int1 (by rfl) X.n_int QB.bo_int (pa_cons (pe_ix (QB.ix_listK K) (pv 0) pe_int (fun _ _ => rfl)) pa_nil)) (pv 1))) (pss_cons (ps_asg (pe_op op_fdiv (pe_ix (QB.ix_listK K) (pv 0) pe_int (fun _ _ => rfl)) (pv 1)) (pg_sub (pv 0) pe_int set_list)) (pss_one (ps_ret (pv 2)))))), ?_⟩
    try dsimp only [Cx.nox, Cx.wish, cxOf]
    refine ⟨_, rfl, p, _, _, _, rfl, rfl, SqL.of hp, rfl, ?_⟩
    refine ⟨_, rfl, by show 2 ≤ sizeLine; decide, fun t ht => ?_⟩
    have s1 := same_new (o := .lst [V.int 0, V.int (-1)]) ht
    have hp1 := s1 _ _ hp
    refine ⟨t, _, rfl, .inl (SqL.of upd_same), rfl, rfl, _, rfl, ?_⟩
    generalize upd H t (.lst [V.int 0, V.int (-1)]) = H1 at s1 hp1 ⊢
    cases inV (V.int d) [V.int 0, V.int (-1)]
    · refine iteF ?_
      refine ⟨_, rfl, p, _, _, _, rfl, rfl, SqL.of hp1, rfl, .inl ⟨_, rfl, ?_⟩⟩
      obtain ⟨r, hr1, hr2⟩ := nat_of_mod (i := d) m0
      refine ⟨_, rfl, _, _, rfl, rfl, by show (0 : Int) < m; omega, ?_⟩
      refine ⟨_, rfl, p, _, _, _, rfl, rfl, SqL.of hp1, rfl, _, rfl, _, _, rfl, rfl, ⟨by omega, by omega⟩, ?_⟩
      refine ⟨_, rfl, p, _, _, 0, rfl, rfl, hp1, rfl, _, rfl, ?_⟩
      show Q (.int (d % (m : Int))) _
      rw [hr2]
      exact q r _ hr1 ((Exc.of s1).mut (.inl (by simp))) ⟨_, _, _, upd_same⟩
    · refine iteT ?_
      refine ⟨_, rfl, p, _, _, _, rfl, rfl, SqL.of hp1, rfl, _, _, rfl, rfl, ?_⟩
      refine ⟨_, rfl, p, _, _, 2, rfl, rfl, hp1, rfl, ?_⟩
      generalize hH2 : upd H1 p _ = H2
      have hp2 : H2 p = some (.lst [V.int d, V.int c, V.int (n + 1)]) := by rw [← hH2]; exact upd_same
      have s2 : Exc [p] H H2 := by rw [← hH2]; exact (Exc.of s1).mut (.inl (by simp))
      refine ⟨_, rfl, p, _, _, _, rfl, rfl, SqL.of hp2, rfl, ?_⟩
      refine ⟨_, rfl, p, _, _, _, rfl, rfl, SqL.of hp2, rfl, ?_⟩
      refine ⟨_, _, rfl, fun r0 => ?_⟩
      refine .inl ⟨_, rfl, ?_⟩
      obtain ⟨r, hr1, hr2⟩ := nat_of_mod (i := r0) m0
      refine ⟨_, rfl, _, _, rfl, rfl, by show (0 : Int) < m; omega, ?_⟩
      show Q (.int (r0 % (m : Int))) H2
      rw [hr2]
      exact q r _ hr1 s2 ⟨_, _, _, hp2⟩
end
end Law
end

section
set_option Elab.async false
set_option linter.all false
set_option maxRecDepth 100000
/-! Qtext: texts by their signs. -/
namespace QT
open PySem PySem.Spec PyProof.Rows L2 TL
theorem tl_cutL (z : Str) (k : Nat) : tl (cutS z none (some (k : Int))) = (tl z).take k := by
  unfold cutS
  rw [HT.sIx_nat, HT.sIx_none, List.drop_zero, Nat.sub_zero, tl_mk]
  show _ = z.cps.toList.take k
  have e : z.length = z.cps.toList.length := len_tl z
  by_cases h : k ≤ z.length
  · rw [Nat.min_eq_left h]
  · rw [Nat.min_eq_right (by omega), List.take_of_length_le (by omega), List.take_of_length_le (by omega)]
theorem tl_cutR (z : Str) (k : Nat) : tl (cutS z (some (k : Int)) none) = (tl z).drop k := by
  unfold cutS
  rw [HT.sIx_nat, HT.sIx_none, tl_mk]
  show _ = z.cps.toList.drop k
  have e : z.length = z.cps.toList.length := len_tl z
  by_cases h : k ≤ z.length
  · rw [Nat.min_eq_left h, List.take_of_length_le (by rw [List.length_drop]; omega)]
  · rw [Nat.min_eq_right (by omega), List.drop_eq_nil_of_le (by omega), List.drop_eq_nil_of_le (by omega), List.take_nil]
theorem joinL_nil : ∀ l : List (List Nat), joinL [] l = l.flatten
  | [] => rfl
  | [p] => by simp [joinL]
  | p :: q :: r => by
    rw [joinL, joinL_nil (q :: r)]
    simp
theorem tl_join0 (ys : List Str) : tl (Txt.join Str.empty ys) = (ys.map tl).flatten := by
  rw [join_eq, tl_join]
  exact joinL_nil _
/-- the letters -/
def abc : Str := "abcdefghijklmnopqrstuvwxyz"
theorem abc_len : abc.length = 26 := by decide +kernel
theorem abc_tl : tl abc = (List.range 26).map (97 + ·) := by decide +kernel
theorem abc_mem {c : Nat} : c ∈ tl abc ↔ 97 ≤ c ∧ c < 123 := by
  rw [abc_tl, List.mem_map]
  constructor
  · rintro ⟨i, hi, rfl⟩
    rw [List.mem_range] at hi
    omega
  · rintro ⟨h1, h2⟩
    exact ⟨c - 97, List.mem_range.mpr (by omega), by omega⟩
theorem abc_at {i : Nat} (h : i < 26) : abc.cps[i]? = some (97 + i) := by
  have e : (tl abc)[i]? = some (97 + i) := by
    rw [abc_tl, List.getElem?_map, List.getElem?_range h]
    rfl
  rw [← e]
  simp [tl]
theorem abc_item {i : Int} (h0 : 0 ≤ i) (h : i < 26) : abc.cps[i.toNat]? = some (97 + i.toNat) := abc_at (by omega)
/-- a sign within fixed ones -/
theorem mid_inj {A B T T' : List Nat} {c d : Nat} (h : A ++ [c] ++ B ++ T = A ++ [d] ++ B ++ T') : c = d := by
  have e := congrArg (fun l : List Nat => l[A.length]?) h
  simpa using e
end QT
end

section
set_option Elab.async false
set_option linter.all false
set_option maxRecDepth 100000
set_option maxHeartbeats 4000000
namespace Law
open PySem PySem.Spec PyProof.Rows L2 LamX QB QM TL QT
section
variable {P : Program} {w : World} {K : PySem.W.Frag} {mg : Str → Option Value} {base : Heap}
theorem PileAt.upd {H : Hp} {p q : Addr} {o : HO} (h : PileAt H p) (n : p ≠ q) : PileAt (L2.upd H q o) p := by
  obtain ⟨d, c, k, e⟩ := h
  exact ⟨d, c, k, (upd_ne n).trans e⟩
theorem PileAt.ne {H : Hp} {p q : Addr} (h : PileAt H p) (n : H q = none) : p ≠ q := fun z => by
  subst z
  obtain ⟨_, _, _, e⟩ := h
  rw [n] at e
  cases e
theorem PileAt.same {H H' : Hp} {p : Addr} (h : PileAt H p) (s : Same H H') : PileAt H' p := by
  obtain ⟨d, c, k, e⟩ := h
  exact ⟨d, c, k, s _ _ e⟩
theorem sum_ones : ∀ l : List Nat, ((l.map fun y => (⟨#[97 + y]⟩ : Str)).map (·.length)).sum = l.length
  | [] => rfl
  | y :: l => by
    rw [List.map_cons, List.map_cons, List.sum_cons, sum_ones l, List.length_cons]
    show 1 + l.length = l.length + 1
    omega
def paces : List Nat := [1, 3, 5, 7, 9, 11, 15, 17, 19, 21, 23, 25]
def plains : Word := ["re", "fwd", "list", "r", "aw", "ref", "a", "fw"]
theorem paces_inj : ∀ c ∈ paces, ∀ sh < 26, ∀ i < 6, ∀ j < 6, 97 + (sh + c * i) % 26 = 97 + (sh + c * j) % 26 → i = j := by decide +kernel
theorem plains_nd : ∀ k < 3, ∀ m < 7, ((plains.drop k ++ plains).take m).Nodup := by decide +kernel
theorem plains_len : ∀ k < 3, ∀ m < 7, ((plains.drop k ++ plains).take m).length = m := by decide +kernel
theorem plains_txt : ∀ t ∈ plains, (decide (1 ≤ t.length) && decide (t.length ≤ 8) && t.cps.toList.all fun c => decide (c ∈ letters.cps.toList)) = true := by decide +kernel
theorem plains_tags {k m : Nat} (hk : k < 3) (h0 : 1 ≤ m) (hm : m ≤ 6) : TagsOk ((plains.drop k ++ plains).take m) := by
  have h2 := plains_len k hk m (by omega)
  refine ⟨by rw [h2]; exact h0, by rw [h2]; exact hm, plains_nd k hk m (by omega), fun t ht => ?_⟩
  have hp : t ∈ plains := by
    rcases List.mem_append.mp (List.mem_of_mem_take ht) with h | h
    · exact List.mem_of_mem_drop h
    · exact h
  have h := plains_txt t hp
  rw [Bool.and_eq_true, Bool.and_eq_true, List.all_eq_true] at h
  exact ⟨of_decide_eq_true h.1.1, of_decide_eq_true h.1.2, fun c hc => of_decide_eq_true (h.2 c hc)⟩
/-- one drawn name -/
def nameOf (w : Str) (at_ sh pc i : Nat) : Str := cutS w none (some (at_ : Int)) ++ (⟨#[97 + (sh + pc * i) % 26]⟩ : Str) ++ cutS w (some (at_ : Int)) none
theorem tl_name (w : Str) (at_ sh pc i : Nat) : tl (nameOf w at_ sh pc i) = (tl w).take at_ ++ [97 + (sh + pc * i) % 26] ++ (tl w).drop at_ := by
  unfold nameOf
  rw [tl_append, tl_append, tl_cutL, tl_cutR]
def tailB (w : Str) : Str := if w.length < 7 then "a" else Str.empty
def tailOf (w : Str) (i : Nat) : Str := if i % 2 = 0 then Str.empty else tailB w
theorem tailB_len (w : Str) : (tailB w).length ≤ 1 := by
  unfold tailB
  split
  · decide
  · decide
theorem tailOf_len (w : Str) (i : Nat) : (tailOf w i).length ≤ 1 := by
  unfold tailOf
  split
  · decide
  · exact tailB_len w
theorem name_len (w : Str) (at_ sh pc i : Nat) : (nameOf w at_ sh pc i).length = w.length + 1 := by
  have e1 : (nameOf w at_ sh pc i).length = (tl (nameOf w at_ sh pc i)).length := len_tl _
  have e2 : w.length = (tl w).length := len_tl w
  have e3 : ((tl w).take at_).length + ((tl w).drop at_).length = (tl w).length := by rw [← List.length_append, List.take_append_drop]
  rw [e1, tl_name, List.length_append, List.length_append, e2]
  simp only [List.length_cons, List.length_nil]
  omega
theorem cut_lens (w : Str) (k : Nat) : (cutS w none (some (k : Int))).length ≤ w.length ∧ (cutS w (some (k : Int)) none).length ≤ w.length := by
  have e1 : (cutS w none (some (k : Int))).length = ((tl w).take k).length := (len_tl _).trans (congrArg List.length (tl_cutL w k))
  have e2 : (cutS w (some (k : Int)) none).length = ((tl w).drop k).length := (len_tl _).trans (congrArg List.length (tl_cutR w k))
  have e3 : w.length = (tl w).length := len_tl w
  rw [e1, e2, e3, List.length_take, List.length_drop]
  exact ⟨Nat.min_le_right _ _, Nat.sub_le _ _⟩
theorem len_add (x y : Str) : (x ++ y).length = x.length + y.length := by
  have e1 : (x ++ y).length = (tl (x ++ y)).length := len_tl _
  have e2 : x.length = (tl x).length := len_tl x
  have e3 : y.length = (tl y).length := len_tl y
  rw [e1, tl_append, List.length_append, e2, e3]
theorem tail_cases (w : Str) (i : Nat) : (tl (tailOf w i) = [] ∨ (w.length < 7 ∧ tl (tailOf w i) = [97])) := by
  unfold tailOf tailB
  split
  · exact .inl rfl
  · split
    · exact .inr ⟨by assumption, rfl⟩
    · exact .inl rfl
theorem names_tags {w : Str} {at_ sh pc m : Nat} (hw : w.length < 8) (hc : ∀ c ∈ tl w, 97 ≤ c ∧ c < 123) (hs : sh < 26) (hp : pc ∈ paces) (h0 : 1 ≤ m) (hm : m ≤ 6) : TagsOk ((List.range m).map fun i => nameOf w at_ sh pc i ++ tailOf w i) := by
  have e : ∀ i, tl (nameOf w at_ sh pc i ++ tailOf w i) = (tl w).take at_ ++ [97 + (sh + pc * i) % 26] ++ (tl w).drop at_ ++ tl (tailOf w i) := fun i => by rw [tl_append, tl_name]
  refine ⟨by simpa using h0, by simpa using hm, ?_, fun t ht => ?_⟩
  · refine List.pairwise_map.mpr (List.nodup_range.imp_of_mem fun {i j} hi hj hne z => hne ?_)
    have z2 : tl (nameOf w at_ sh pc i ++ tailOf w i) = tl (nameOf w at_ sh pc j ++ tailOf w j) := congrArg tl z
    rw [e, e] at z2
    rw [List.mem_range] at hi hj
    exact paces_inj pc hp sh hs i (by omega) j (by omega) (mid_inj z2)
  · obtain ⟨i, _, rfl⟩ := List.mem_map.mp ht
    have hl : (nameOf w at_ sh pc i ++ tailOf w i).length = w.length + 1 + (tl (tailOf w i)).length := by
      have e1 : (nameOf w at_ sh pc i ++ tailOf w i).length = (tl (nameOf w at_ sh pc i ++ tailOf w i)).length := len_tl _
      have e2 : w.length = (tl w).length := len_tl w
      have e3 : ((tl w).take at_).length + ((tl w).drop at_).length = (tl w).length := by rw [← List.length_append, List.take_append_drop]
      rw [e1, e, List.length_append, List.length_append, List.length_append, e2]
      simp only [List.length_cons, List.length_nil]
      omega
    refine ⟨by omega, ?_, fun c hcm => ?_⟩
    · rcases tail_cases w i with h | ⟨h1, h2⟩
      · rw [h] at hl
        simp at hl
        omega
      · rw [h2] at hl
        simp at hl
        omega
    · refine (abc_mem (c := c)).mpr ?_
      have hcm : c ∈ tl (nameOf w at_ sh pc i ++ tailOf w i) := hcm
      rw [e] at hcm
      rcases List.mem_append.mp hcm with h | h
      · rcases List.mem_append.mp h with h | h
        · rcases List.mem_append.mp h with h | h
          · exact hc c (List.mem_of_mem_take h)
          · rw [List.mem_singleton.mp h]
            omega
        · exact hc c (List.mem_of_mem_drop h)
      · rcases tail_cases w i with h' | ⟨_, h'⟩
        · rw [h'] at h
          cases h
        · rw [h', List.mem_singleton] at h
          omega
def spTags : Sp := fun vs H Q _ => ∃ (p : Addr) (m : Nat), vs = [.ref p, .int (m : Int)] ∧ 1 ≤ m ∧ m ≤ 6 ∧ PileAt H p ∧ ∀ (tags : Word) (q : Addr) (H' : Hp), TagsOk tags → tags.length = m → Exc [p] H H' → PileAt H' p → H q = none → WordAt H' q tags → Q (.ref q) H'
theorem ok__law_tags (X : TX K mg) : FnOk P w K mg base CX0 4 X.d__law_tags.a X.d__law_tags.fd ["pile", "many"] spTags := by
  have nd := sc__law_tags.nd
  refine X.d__law_tags.F.ok sc__law_tags (fun vs H Q E h => ?_) (fun cdv A outer s H vs Q E hr h => ?_)
  · obtain ⟨p, m, rfl, _⟩ := h
    rfl
  · obtain ⟨p, m, rfl, m0, m1, hp, q⟩ := h
    refine ⟨_, (pss_cons (ps_set (i := 2) nd rfl (Or.inr rfl) pe_str) (pss_cons (ps_set (i := 3) nd rfl (Or.inr rfl) (pe_join pe_str (pe_lc (own := [("k", 10)]) (g := gName 10) (tt := tYes) rfl nd (pi_range1 (by rfl) X.n_range (pa_cons (pe_call (ok__law_take X) (hr.mono (by decide)) rfl X.d__law_take.mg X.d__law_take.F.kp X.d__law_take.b .nil pass0 (pa_cons (pv 0) (pa_cons pe_int pa_nil))) pa_nil)) (blkOk_by (N := ["pile", "many", "letters", "stem", "at", "shift", "pace", "plain", "tail", "some", "k", "name"]) (sc := defScope s__law_tags) (by decide +kernel)) (fun _ _ _ _ _ => pg_name (i := 10) nd rfl (Or.inl rfl)) (fun _ _ _ _ _ => pts_nil) (fun _ _ _ _ _ => (pe_item_str (pv 2) (pe_call (ok__law_take X) (hr.mono (by decide)) rfl X.d__law_take.mg X.d__law_take.F.kp X.d__law_take.b .nil pass0 (pa_cons (pv 0) (pa_cons pe_int pa_nil))) (fun _ _ => rfl)))))) (pss_cons (ps_set (i := 4) nd rfl (Or.inr rfl) (pe_call (ok__law_take X) (hr.mono (by decide)) rfl X.d__law_take.mg X.d__law_take.F.kp X.d__law_take.b .nil pass0 (pa_cons (pv 0) (pa_cons (pe_op op_add (pe_callB call_len_str (by rfl) X.n_len PySem.boot_len (pa_cons (pv 3) pa_nil)) pe_int) pa_nil)))) (pss_cons (ps_set (i := 5) nd rfl (Or.inr rfl) (pe_call (ok__law_take X) (hr.mono (by decide)) rfl X.d__law_take.mg X.d__law_take.F.kp X.d__law_take.b .nil pass0 (pa_cons (pv 0) (pa_cons pe_int pa_nil)))) (pss_cons (ps_set (i := 6) nd rfl (Or.inr rfl) (pe_ix (QB.ix_listK K) (pe_lst (pa_cons pe_int (pa_cons pe_int (pa_cons pe_int (pa_cons pe_int (pa_cons pe_int (pa_cons pe_int (pa_cons pe_int (pa_cons pe_int (pa_cons pe_int (pa_cons pe_int (pa_cons pe_int (pa_cons pe_int pa_nil))))))))))))) (pe_call (ok__law_take X) (hr.mono (by decide)) rfl X.d__law_take.mg X.d__law_take.F.kp X.d__law_take.b .nil pass0 (pa_cons (pv 0) (pa_cons pe_int pa_nil))) (fun _ _ => rfl))) (pss_cons (ps_if (pt_cmpR op_eq (pe_op op_mod (pv 5) pe_int) pe_int (nomark _)) (pss_cons (ps_set (i := 7) nd rfl (Or.inl rfl) (pe_lst (pa_cons pe_str (pa_cons pe_str (pa_cons pe_str (pa_cons pe_str (pa_cons pe_str (pa_cons pe_str (pa_cons pe_str (pa_cons pe_str pa_nil)))))))))) (pss_one (ps_ret (pe_slice (QB.sl_listK K) (pe_op op_cat (pe_slice (QB.sl_listK K) (pv 7) (po_some (pe_op op_mod (pe_op op_fdiv (pv 5) pe_int) pe_int)) po_none) (pv 7)) po_none (po_some (pv 1)))))) pss_nil) (pss_cons (ps_set (i := 8) nd rfl (Or.inr rfl) (pe_op QO.op_mul_str pe_str (pe_callTy call_int1 (by rfl) X.n_int QB.bo_int (pa_cons (pe_cmpR op_lt (pe_callB call_len_str (by rfl) X.n_len PySem.boot_len (pa_cons (pv 3) pa_nil)) pe_int (nomark _)) pa_nil)))) (pss_cons (ps_setLc (i := 9) (own := [("k", 10)]) (g := gName 10) (tt := tYes) rfl nd rfl rfl (sw_true rfl rfl rfl (by decide +kernel)) (pi_range1 (by rfl) X.n_range (pa_cons (pv 1) pa_nil)) (blkOk_by (N := ["pile", "many", "letters", "stem", "at", "shift", "pace", "plain", "tail", "some", "k", "name"]) (sc := defScope s__law_tags) (by decide +kernel)) (fun _ _ _ _ _ => pg_name (i := 10) nd rfl (Or.inl rfl)) (fun _ _ _ _ _ => pts_nil) (fun _ _ _ _ _ => (pe_op op_add_str (pe_op op_add_str (pe_slice sl_str (pv 3) po_none (po_some (pv 4))) (pe_item_str (pv 2) (pe_op op_mod (pe_op op_add (pv 5) (pe_op op_mul (pv 6) (pv 10))) pe_int) (fun _ _ => rfl))) (pe_slice sl_str (pv 3) (po_some (pv 4)) po_none)))) (pss_one (ps_ret (pe_lc (own := [("k", 10), ("name", 11)]) (g := gTup K 2 (gCons (gName 10) (gCons (gName 11) (gNil)))) (tt := tYes) rfl nd (QB.pi_enumK K (by rfl) X.n_enumerate (pa_cons (pv 9) pa_nil)) (blkOk_by (N := ["pile", "many", "letters", "stem", "at", "shift", "pace", "plain", "tail", "some", "k", "name"]) (sc := defScope s__law_tags) (by decide +kernel)) (fun _ _ _ _ _ => pg_tup (by rfl) (pgs_cons (pg_name (i := 10) nd rfl (Or.inl rfl)) (pgs_cons (pg_name (i := 11) nd rfl (Or.inl rfl)) (pgs_nil)))) (fun _ _ _ _ _ => pts_nil) (fun _ _ _ _ _ => (pe_op op_add_str (pv 11) (pe_op QO.op_mul_str (pv 8) (pe_op op_mod (pv 10) pe_int))))))))))))))), ?_⟩
    try dsimp only [Cx.nox, Cx.wish, cxOf]
    refine ⟨⟨_, rfl⟩, _, rfl, ?_⟩
    refine ⟨p, 8, rfl, by decide, by decide, hp, fun r H1 hr1 x1 p1 => ?_⟩
    refine ⟨_, rfl, by omega, by omega, fun D hD => ?_⟩
    have hDp : D ≠ p := fun z => by
      subst z
      obtain ⟨_, _, _, h⟩ := p1
      rw [h] at hD
      cases hD
    refine lc_it (walk_range (lo := 0) (n := r)) (fun i H' => Exc [p] H1 H' ∧ PileAt H' p ∧ ∃ ys : List Nat, ys.length = i ∧ H' D = some (.lst (ys.map fun y => V.str ⟨#[97 + y]⟩)) ∧ ∀ y ∈ ys, y < 26)
      ⟨Exc.refl.mut (.inr hD), p1.upd hDp.symm, [], rfl, upd_same, fun _ h => nomatch h⟩ (fun _ _ _ _ => True.intro) ?_ ?_
    · rintro i x H2 H3 hi ⟨x2, p2, ys, hl, hDl, hy⟩ ⟨rfl, rfl⟩
      refine ⟨rfl, _, rfl, _, rfl, ?_⟩
      refine ⟨p, 26, rfl, by decide, by decide, p2, fun r2 H4 hr2 x4 p4 => ?_⟩
      refine ⟨abc, _, _, rfl, rfl, by omega, by omega, by rw [abc_len]; omega, abc_item (by omega) (by omega), ?_⟩
      have hD4 := x4 D _ (by simpa using hDp) hDl
      refine ⟨_, hD4, by rw [List.length_map]; exact sz_lt (by omega), (x2.trans x4).mut (.inr hD), p4.upd hDp.symm, ys ++ [r2], by rw [List.length_append, hl]; rfl, ?_, ?_⟩
      · rw [upd_same, List.map_append]
        rfl
      · intro y hy'
        rcases List.mem_append.mp hy' with h | h
        · exact hy y h
        · rw [List.mem_singleton.mp h]
          exact hr2
    · rintro H2 ⟨x2, p2, ys, hl, hDl, hy⟩
      have hys : ys.map (fun y => V.str ⟨#[97 + y]⟩) = (ys.map fun y => (⟨#[97 + y]⟩ : Str)).map V.str := by rw [List.map_map]; rfl
      rw [hys] at hDl
      refine ⟨_, D, ys.map fun y => (⟨#[97 + y]⟩ : Str), rfl, rfl, .inl (SqL.of hDl), ?_, ?_⟩
      · rw [sum_ones, List.length_map]
        show ys.length + ys.length * 0 ≤ 16777216
        omega
      have hw : tl (Txt.join (Str.ofString "") (ys.map fun y => (⟨#[97 + y]⟩ : Str))) = ys.map (97 + ·) := by
        rw [show Str.ofString "" = Str.empty from rfl, tl_join0, List.map_map]
        clear hDl hys hl hy
        induction ys with
        | nil => rfl
        | cons y ys ih =>
          rw [List.map_cons, List.flatten_cons, ih]
          rfl
      generalize Txt.join (Str.ofString "") (ys.map fun y => (⟨#[97 + y]⟩ : Str)) = w at hw ⊢
      have hwl : w.length = r := by
        rw [len_tl w, show (tl w).length = (ys.map (97 + ·)).length from congrArg List.length hw, List.length_map]
        exact hl
      have hwc : ∀ c ∈ tl w, 97 ≤ c ∧ c < 123 := fun c hc => by
        rw [hw] at hc
        obtain ⟨y, hy', rfl⟩ := List.mem_map.mp hc
        have := hy y hy'
        omega
      have xA := x1.trans x2
      clear hw hys hDl hy
      show tSeq _ _ _ _ _
      have hsz : w.length ≤ sizeLine := by rw [hwl]; exact Nat.le_trans (Nat.le_of_lt hr1) (by decide)
      refine ⟨_, rfl, _, rfl, w, rfl, hsz, _, _, rfl, rfl, ?_⟩
      refine ⟨p, w.length + 1, rfl, by omega, by omega, p2, fun at_ H3 hat x3 p3 => ?_⟩
      refine ⟨_, rfl, p, 26, rfl, by decide, by decide, p3, fun sh H4 hsh x4 p4 => ?_⟩
      refine ⟨by show 12 ≤ sizeLine; decide, fun t1 ht1 => ?_⟩
      have s5 := same_new (o := .lst (paces.map fun n : Nat => V.int (n : Int))) ht1
      refine ⟨_, rfl, p, 12, rfl, by decide, by decide, p4.same s5, fun pi H5 hpi x5 p5 => ?_⟩
      have hpl : paces[pi]? = some (paces[pi]'hpi) := List.getElem?_eq_getElem hpi
      have hpm : paces[pi]'hpi ∈ paces := List.getElem_mem hpi
      have ht1p := p4.ne ht1
      refine ⟨t1, _, _, V.int ((paces[pi]'hpi : Nat) : Int), rfl, rfl, SqL.of (x5 t1 _ (by simpa using ht1p.symm) upd_same), atI_nat (by
        show (paces.map fun n : Nat => V.int (n : Int))[pi]? = _
        rw [List.getElem?_map, hpl]
        rfl), ?_⟩
      generalize paces[pi]'hpi = pc at hpm hpl ⊢
      have xB := (((xA.trans x3).trans x4).trans (.of s5)).trans x5
      clear s5 x5 hpl ht1p ht1 xA x3 x4 p3 p4 p2 x2 p1 x1 hD
      show tSeq _ _ _ (List.set _ 6 _) _
      generalize hσ : List.set _ 6 _ = σ6
      have eσ : σ6 = [some (.ref p), some (.int (m : Int)), some (.str abc), some (.str w), some (.int (at_ : Int)), some (.int (sh : Int)), some (.int (pc : Int)), none, none, none, none, none] := by
        rw [← hσ]
        rfl
      subst eσ
      clear hσ
      refine ⟨_, rfl, _, _, rfl, rfl, by show (0 : Int) < 4; decide, ?_⟩
      refine ⟨rfl, _, rfl, ?_⟩
      generalize decide (_ = V.int 3) = bb
      cases bb
      · refine iteF ?_
        refine ⟨_, rfl, w, rfl, hsz, _, _, rfl, rfl, .inr ⟨_, rfl, Str.ofString "a", rfl, ?_⟩⟩
        by_cases h7 : w.length < 7
        case' pos =>
          rw [decide_eq_true (show (w.length : Int) < 7 by omega)]
          refine .inr ⟨rfl, ?_⟩
          have hT : ∀ i, tailOf w i = if i % 2 = 0 then Str.empty else Str.ofString "a" := fun i => by
            unfold tailOf tailB
            rw [if_pos h7]
        case' neg =>
          rw [decide_eq_false (show ¬ (w.length : Int) < 7 by omega)]
          refine .inl ⟨rfl, ?_⟩
          have hT : ∀ i, tailOf w i = if i % 2 = 0 then Str.empty else Str.empty := fun i => by
            unfold tailOf tailB
            rw [if_neg h7]
        all_goals
          clear h7
          refine ⟨_, rfl, (m : Int), rfl, by omega, by omega, fun D2 hD2 => ?_⟩
          refine lc_map (walk_range (lo := 0) (n := m)) hD2 (by omega) (fun _ _ => True.intro) (fun i => .str (nameOf w at_ sh pc i)) ?_ ?_
          · rintro i x H6 H7 kk hi s6 ⟨rfl, rfl⟩ hk
            have hv : ((sh : Int) + (pc : Int) * (0 + (i : Nat))) % 26 = (((sh + pc * i) % 26 : Nat) : Int) := by
              rw [Int.zero_add, ← Int.natCast_mul, ← Int.natCast_add]
              omega
            have hc := cut_lens w at_
            refine ⟨rfl, ?_⟩
            refine ⟨_, rfl, _, rfl, _, rfl, w, rfl, hsz, ?_⟩
            refine ⟨_, rfl, _, rfl, _, rfl, _, rfl, _, _, rfl, rfl, ?_, _, _, rfl, rfl, _, _, rfl, rfl, by show (0 : Int) < 26; decide, ?_⟩
            · refine .inl ⟨?_, ?_⟩
              · show -(2 ^ 64) < (pc : Int)
                omega
              · show (pc : Int) < 2 ^ 64
                have : ∀ c ∈ paces, c < 100 := by decide
                have := this pc hpm
                omega
            have hlt : (sh + pc * i) % 26 < 26 := Nat.mod_lt _ (by decide)
            refine ⟨abc, (((sh + pc * i) % 26 : Nat) : Int), 97 + (sh + pc * i) % 26, rfl, congrArg V.int hv, by omega, by omega, by rw [abc_len]; omega, abc_item (by omega) (by omega), ?_⟩
            refine ⟨_, _, rfl, rfl, ?_, ?_⟩
            · show _ + 1 ≤ sizeLine
              exact sz_le (by omega)
            refine ⟨_, rfl, _, rfl, _, rfl, w, rfl, hsz, ?_⟩
            refine ⟨_, _, rfl, rfl, ?_, ?_⟩
            · rw [len_add]
              show _ + 1 + _ ≤ sizeLine
              exact sz_le (by omega)
            exact hk _ (Same.refl _)
          · intro H6 s6 e6
            have tg := names_tags (w := w) (at_ := at_) (sh := sh) (pc := pc) (m := m) (by omega) hwc hsh hpm m0 m1
            have hl := name_len w at_ sh pc
            generalize hnm : nameOf w at_ sh pc = nm at e6 tg hl
            have ht := tailOf_len w
            generalize htm : tailOf w = tm at hT ht tg
            have e6 : WordAt H6 D2 ((List.range m).map nm) := by
              unfold WordAt vS
              rw [List.map_map]
              exact e6
            have hn := fun i (hi : i < m) => show ((List.range m).map nm)[i]? = some (nm i) by
              rw [List.getElem?_map, List.getElem?_range hi]
              rfl
            have hnl : ((List.range m).map nm).length = m := by rw [List.length_map, List.length_range]
            have wk := walk_enumW (K := K) (a := D2) (w := (List.range m).map nm)
            rw [hnl] at wk
            generalize (List.range m).map nm = ns at e6 hn wk
            clear hwc hnm htm hpm hsh
            refine ⟨_, rfl, D2, _, rfl, SqL.of e6, fun D3 hD3 => ?_⟩
            refine lc_map wk hD3 (by omega) (fun H8 s8 => Same.word s8 e6) (fun i => .str (nm i ++ tm i)) ?_ ?_
            · rintro i x H7 H8 kk hi s7 ⟨t, y, hy, nt, rfl, rfl⟩ hk
              rw [hn i hi] at hy
              cases hy
              have s8 := Same.new (Same.refl H7) (o := .tup [.int (i : Int), .str (nm i)]) nt
              refine ⟨t, _, rfl, SqT.of upd_same, rfl, _, _, rfl, _, _, rfl, rfl, rfl, ?_⟩
              refine ⟨_, rfl, _, rfl, _, rfl, _, _, rfl, rfl, by show (0 : Int) < 2; decide, ?_⟩
              have e0 := hk _ s8
              have hl := hl i
              have ht := ht i
              by_cases h2 : i % 2 = 0
              · have e2 := (hT i).trans (if_pos h2)
                rw [e2] at e0 ht
                exact ⟨_, rfl, .inl ⟨congrArg V.int (show (i : Int) % 2 = 0 by omega), _, _, rfl, rfl, sz_le (by omega), e0⟩⟩
              · have e2 := (hT i).trans (if_neg h2)
                rw [e2] at e0 ht
                exact ⟨_, rfl, .inr ⟨congrArg V.int (show (i : Int) % 2 = 1 by omega), _, _, rfl, rfl, sz_le (by omega), e0⟩⟩
            · intro H7 s7 e7
              have s57 := s6.trans s7
              refine q ((List.range m).map fun i => nm i ++ tm i) D3 H7 tg (by rw [List.length_map, List.length_range]) (xB.trans (.of s57)) (p5.same s57) (hp.free xB p5 (s6.free hD3)) ?_
              unfold WordAt vS
              rw [List.map_map]
              exact e7
      · refine iteT ?_
        refine ⟨by show 8 ≤ sizeLine; decide, fun t2 ht2 => ?_⟩
        have s6 : Same H5 (upd H5 t2 (.lst (vS plains))) := same_new ht2
        have h6 : (upd H5 t2 (.lst (vS plains))) t2 = some (.lst (vS plains)) := upd_same
        have e6 : upd H5 t2 (.lst (vS plains)) = upd H5 t2 (.lst [V.str (Str.ofString "re"), V.str (Str.ofString "fwd"), V.str (Str.ofString "list"), V.str (Str.ofString "r"), V.str (Str.ofString "aw"), V.str (Str.ofString "ref"), V.str (Str.ofString "a"), V.str (Str.ofString "fw")]) := rfl
        generalize upd H5 t2 (.lst (vS plains)) = H6 at s6 h6 e6
        rw [← e6]
        clear e6
        refine ⟨_, rfl, _, rfl, _, _, rfl, rfl, ⟨by decide, by decide⟩, _, _, rfl, rfl, by show (0 : Int) < 3; decide, _, rfl, ?_⟩
        refine ⟨t2, _, rfl, SqL.of h6, fun t3 ht3 => ?_⟩
        rw [show (sh : Int) / 4 % 3 = ((sh / 4 % 3 : Nat) : Int) by omega, cut_drop, vS_drop]
        have s7 : Same H5 (upd H6 t3 (.lst (vS (plains.drop (sh / 4 % 3))))) := Same.new s6 ht3
        refine ⟨_, rfl, t3, t2, _, _, rfl, rfl, upd_same, Eq.trans (upd_ne (ne_of_none h6 ht3)) h6, ?_, fun t4 ht4 => ?_⟩
        · rw [vS_len, vS_len, List.length_drop]
          exact sz_le (by show 8 - _ + 8 ≤ 100000; omega)
        rw [vS_append]
        have s8 := Same.new s7 (o := .lst (vS (plains.drop (sh / 4 % 3) ++ plains))) ht4
        refine ⟨_, rfl, _, rfl, t4, _, rfl, SqL.of upd_same, fun t5 ht5 => ?_⟩
        rw [cut_take, vS_take]
        have s9 := Same.new s8 (o := .lst (vS ((plains.drop (sh / 4 % 3) ++ plains).take m))) ht5
        have n5 := s8.free ht5
        exact q _ t5 _ (plains_tags (by omega) m0 m1) (plains_len _ (by omega) _ (by omega)) (xB.trans (.of s9)) (p5.same s9) (hp.free xB p5 n5) upd_same
end
end Law
end

section
set_option Elab.async false
set_option linter.all false
set_option maxRecDepth 100000
set_option maxHeartbeats 4000000
namespace Law
open PySem PySem.Spec PyProof.Rows L2 LamX QB QM
section
variable {P : Program} {w : World} {K : PySem.W.Frag} {mg : Str → Option Value} {base : Heap}
theorem newLExc {H0 H H' : Hp} {p : Addr} {L : List Tri} {F : Form} (n : NewL H0 H L F) (e : Exc [p] H H') (hp : PileAt H0 p) : NewL H0 H' L F := by
  obtain ⟨d, c, k, hp⟩ := hp
  refine ⟨paired_mem n.at_ fun x s hx q => ?_, n.new, n.nd⟩
  obtain ⟨f1, f2, f3⟩ := n.new x hx
  have g1 := f1.ne hp
  have g2 := f2.ne hp
  have g3 := f3.ne hp
  exact ⟨e _ _ (by simpa using g1.symm) q.1, e _ _ (by simpa using g2.symm) q.2.1, e _ _ (by simpa using g3.symm) q.2.2⟩
theorem newLSnoc {H0 H : Hp} {t a b : Addr} {L : List Tri} {F : Form} {s : Std} (n : NewL H0 H L F) (h1 : H t = some (.tup [.ref a, .ref b])) (h2 : WordAt H a s.1) (h3 : WaysAt H b s.2) (f1 : Fresh H0 t) (f2 : Fresh H0 a) (f3 : Fresh H0 b) (o1 : a ∉ inner L) (o2 : b ∉ inner L) (hab : a ≠ b) :
    NewL H0 H (L ++ [(t, a, b)]) (F ++ [s]) := by
  refine ⟨Paired.snoc n.at_ ⟨h1, h2, h3⟩, fun x hx => ?_, ?_⟩
  · rcases List.mem_append.mp hx with hx | hx
    · exact n.new x hx
    · rw [List.mem_singleton.mp hx]
      exact ⟨f1, f2, f3⟩
  · rw [inner_append, List.nodup_append]
    refine ⟨n.nd, ?_, fun x hx y hy => ?_⟩
    · show [a, b].Nodup
      simp [hab]
    · have hy : y = a ∨ y = b := by simpa [inner] using hy
      rcases hy with rfl | rfl
      · exact fun z => o1 (z ▸ hx)
      · exact fun z => o2 (z ▸ hx)
theorem vWs_flat {ws : Ways} : (vWs ws).all flatV = true := by
  rw [List.all_eq_true]
  intro x hx
  obtain ⟨y, _, rfl⟩ := List.mem_map.mp hx
  cases y <;> rfl
theorem mem_inner_set {q t a : Addr} : ∀ {L : List Tri} {k : Nat} {y : Tri}, L[k]? = some y → q ∈ inner (L.set k (t, a, y.2.2)) → q ∈ inner L ∨ q = a
  | [], k, _, e, _ => by simp at e
  | x :: L, 0, y, e, h => by
    simp at e
    subst e
    have h : q ∈ a :: x.2.2 :: inner L := h
    show q ∈ x.2.1 :: x.2.2 :: inner L ∨ q = a
    rcases List.mem_cons.mp h with h | h
    · exact .inr h
    · exact .inl (List.mem_cons_of_mem _ h)
  | x :: L, k + 1, y, e, h => by
    rw [List.getElem?_cons_succ] at e
    rw [List.set_cons_succ] at h
    have h : q ∈ x.2.1 :: x.2.2 :: inner (L.set k (t, a, y.2.2)) := h
    show q ∈ x.2.1 :: x.2.2 :: inner L ∨ q = a
    rcases List.mem_cons.mp h with h | h
    · exact .inl (h ▸ List.mem_cons_self)
    · rcases List.mem_cons.mp h with h | h
      · exact .inl (h ▸ List.mem_cons_of_mem _ List.mem_cons_self)
      · rcases mem_inner_set e h with h | h
        · exact .inl (List.mem_cons_of_mem _ (List.mem_cons_of_mem _ h))
        · exact .inr h
theorem newLSet {H0 H : Hp} {t a : Addr} {w' : Word} (h2 : WordAt H a w') (f1 : Fresh H0 t) (f2 : Fresh H0 a) : ∀ {L : List Tri} {F : Form} {k : Nat} {y : Tri} {s : Std}, NewL H0 H L F → L[k]? = some y → F[k]? = some s →
    H t = some (.tup [.ref a, .ref y.2.2]) → a ∉ inner L → NewL H0 H (L.set k (t, a, y.2.2)) (F.set k (w', s.2))
  | [], _, k, _, _, _, e, _, _, _ => by simp at e
  | y :: L, [], k, _, _, _, _, e, _, _ => by simp at e
  | y :: L, f :: F, 0, x, s, n, e1, e2, h1, o => by
    simp at e1 e2
    subst e1 e2
    obtain ⟨p, nw, nd⟩ := n
    cases p with
    | cons h r =>
      have nd' : (y.2.1 :: y.2.2 :: inner L).Nodup := nd
      rw [List.nodup_cons] at nd'
      have o' : a ∉ y.2.1 :: y.2.2 :: inner L := o
      rw [List.set_cons_zero]
      refine ⟨.cons ⟨h1, h2, h.2.2⟩ r, fun z hz => ?_, ?_⟩
      · rcases List.mem_cons.mp hz with rfl | hz
        · exact ⟨f1, f2, (nw y List.mem_cons_self).2.2⟩
        · exact nw z (List.mem_cons_of_mem _ hz)
      · show (a :: y.2.2 :: inner L).Nodup
        exact List.nodup_cons.mpr ⟨fun z => o' (List.mem_cons_of_mem _ z), nd'.2⟩
  | y :: L, f :: F, k + 1, x, s, n, e1, e2, h1, o => by
    rw [List.getElem?_cons_succ] at e1 e2
    obtain ⟨p, nw, nd⟩ := n
    cases p with
    | cons h r =>
      have nd' : (y.2.1 :: y.2.2 :: inner L).Nodup := nd
      rw [List.nodup_cons, List.nodup_cons] at nd'
      obtain ⟨d1, d2, d3⟩ := nd'
      have o' : a ∉ y.2.1 :: y.2.2 :: inner L := o
      have n' : NewL H0 H L F := ⟨r, fun z hz => nw z (List.mem_cons_of_mem _ hz), d3⟩
      have rest := newLSet h2 f1 f2 n' e1 e2 h1 fun z => o' (List.mem_cons_of_mem _ (List.mem_cons_of_mem _ z))
      rw [List.set_cons_succ]
      refine ⟨.cons h rest.at_, fun z hz => ?_, ?_⟩
      · rcases List.mem_cons.mp hz with rfl | hz
        · exact nw z List.mem_cons_self
        · exact rest.new z hz
      · show (y.2.1 :: y.2.2 :: inner (L.set k (t, a, x.2.2))).Nodup
        rw [List.nodup_cons, List.nodup_cons]
        refine ⟨fun z => ?_, fun z => ?_, rest.nd⟩
        · rcases List.mem_cons.mp z with z | z
          · exact d1 (z ▸ List.mem_cons_self)
          · rcases mem_inner_set e1 z with z | z
            · exact d1 (List.mem_cons_of_mem _ z)
            · exact o' (z ▸ List.mem_cons_self)
        · rcases mem_inner_set e1 z with z | z
          · exact d2 z
          · exact o' (z ▸ List.mem_cons_of_mem _ List.mem_cons_self)
theorem eqV_way (x : Option Nat) (k : Nat) : eqV (vW x) (.int (k : Int)) = decide (x = some k) := by
  cases x with
  | none => simp [vW, eqV]
  | some m =>
    by_cases h : m = k
    · subst h
      simp [vW, eqV]
    · have : ¬ (m : Int) = (k : Int) := by omega
      simp [vW, eqV, h, this]
theorem inV_ways (k : Nat) (ws : Ways) : inV (.int (k : Int)) (vWs ws) = decide (some k ∈ ws) := by
  unfold inV vWs
  induction ws with
  | nil => rfl
  | cons y w ih =>
    rw [List.map_cons, List.any_cons, ih, eqV_way]
    by_cases h : y = some k
    · subst h
      simp
    · simp [h, Ne.symm h]
theorem idxOf_minW {tags : Ways} {t : Option Nat} : ∀ {m : Nat}, m < tags.idxOf t → ∀ {x}, tags[m]? = some x → x ≠ t := by
  induction tags with
  | nil => intro m h x e; simp at e
  | cons y tags ih =>
    intro m h x e z
    subst z
    rw [List.idxOf_cons] at h
    by_cases hy : y == x
    · rw [hy] at h
      simp at h
    · rw [Bool.not_eq_true] at hy
      rw [hy] at h
      simp at h
      cases m with
      | zero =>
        simp at e
        subst e
        simp at hy
      | succ m => exact ih (m := m) (by omega) (by simpa using e) rfl
theorem index_ways {K : PySem.W.Frag} {H : Hp} {a : Addr} {ws : Ways} {k : Nat} {Q : VK} (h : WaysAt H a ws) (hk : some k ∈ ws) (q : ∀ j : Nat, j < ws.length → Q (.int (j : Int)) H) : rIndex K (.ref a) [.int (k : Int)] H Q := by
  have hlt : ws.idxOf (some k) < ws.length := List.idxOf_lt_length_of_mem hk
  refine ⟨a, vWs ws, .int (k : Int), ws.idxOf (some k), vW (some k), rfl, rfl, SqL.of h, rfl, vWs_flat, vWs_get ?_, by rw [eqV_way]; simp, fun m z hm hz => ?_, q _ hlt⟩
  · rw [List.getElem?_eq_getElem hlt, List.getElem_idxOf]
  · have hm' : m < ws.length := Nat.lt_trans hm hlt
    rw [vWs_get (show ws[m]? = some ws[m] by simp [hm'])] at hz
    cases hz
    rw [eqV_way]
    exact decide_eq_false (idxOf_minW hm (by simp [hm']))
theorem wordExc {H H' : Hp} {p a : Addr} {t : Word} (e : Exc [p] H H') (n : a ≠ p) (h : WordAt H a t) : WordAt H' a t := e _ _ (by simpa using n) h
theorem PileAt.word {H : Hp} {p a : Addr} {t : Word} (h : PileAt H p) (ha : WordAt H a t) : a ≠ p := fun z => by
  subst z
  obtain ⟨_, _, _, h⟩ := h
  unfold WordAt at ha
  rw [h] at ha
  injection ha with ha
  injection ha with ha
  cases t with
  | nil => cases ha
  | cons => cases ha
theorem flat_rep : ∀ n : Nat, (List.replicate n [V.non]).flatten = List.replicate n V.non
  | 0 => rfl
  | n + 1 => by
    rw [List.replicate_succ, List.flatten_cons, flat_rep n, List.replicate_succ]
    rfl
theorem pick_ways {n r : Nat} (h : r < 2 * n) : ((List.range n).map (fun i : Nat => V.int (0 + (i : Int))) ++ (List.replicate (n : Int).toNat [V.non]).flatten)[r]? = some (vW (if r < n then some r else none)) := by
  rw [show (n : Int).toNat = n from rfl, flat_rep]
  by_cases hr : r < n
  · rw [if_pos hr, List.getElem?_append_left (by rw [List.length_map, List.length_range]; exact hr), List.getElem?_map, List.getElem?_range hr]
    show some (V.int (0 + (r : Int))) = some (V.int (r : Int))
    rw [Int.zero_add]
  · rw [if_neg hr, List.getElem?_append_right (by rw [List.length_map, List.length_range]; omega), List.length_map, List.length_range, List.getElem?_replicate, if_pos (by omega)]
    rfl
theorem vWs_snoc (ws : Ways) (x : Option Nat) : vWs ws ++ [vW x] = vWs (ws ++ [x]) := by
  unfold vWs
  rw [List.map_append]
  rfl
def spEater : Sp := fun vs H Q _ => ∃ (p a : Addr) (tags : Word) (most long : Nat), vs = [.ref p, .ref a, .int (most : Int), .int (long : Int)] ∧ 1 ≤ most ∧ most ≤ 30 ∧ long ≤ 8 ∧ PileAt H p ∧ WordAt H a tags ∧ TagsOk tags ∧
  ∀ (F : Form) (L : List Tri) (q : Addr) (H' : Hp), FormOk tags F → F.length ≤ most → Exc [p] H H' → PileAt H' p → NewF H H' q L F → Q (.ref q) H'
end
end Law
end

section
set_option Elab.async false
set_option linter.all false
set_option maxRecDepth 100000
set_option maxHeartbeats 4000000
namespace Law
open PySem PySem.Spec PyProof.Rows L2 LamX QB QM
section
variable {P : Program} {w : World} {K : PySem.W.Frag} {mg : Str → Option Value} {base : Heap}
theorem atI_last {ys : List V} {v : V} : atI (ys ++ [v]) (-1) = some v := by
  have e : ixN (ys ++ [v]).length (-1) = some ys.length := by
    unfold ixN
    rw [if_neg (by decide), List.length_append, if_pos (by show -((ys.length + 1 : Nat) : Int) ≤ -1; omega)]
    congr 1
    show (-1 + ((ys.length + 1 : Nat) : Int)).toNat = ys.length
    omega
  unfold atI
  rw [e]
  simp
def spSubject : Sp := fun vs H Q _ => ∃ (p a : Addr) (tags : Word) (most : Nat), vs = [.ref p, .ref a, .int (most : Int)] ∧ most ≤ 900 ∧ PileAt H p ∧ WordAt H a tags ∧ TagsOk tags ∧
  ∀ (wd : Word) (q : Addr) (H' : Hp), (∀ t ∈ wd, t ∈ tags) → wd.length ≤ most → Exc [p] H H' → PileAt H' p → H q = none → WordAt H' q wd → Q (.ref q) H'
theorem ok__law_subject (X : TX K mg) : FnOk P w K mg base CX0 4 X.d__law_subject.a X.d__law_subject.fd ["pile", "tags", "most"] spSubject := by
  have nd := sc__law_subject.nd
  refine X.d__law_subject.F.ok sc__law_subject (fun vs H Q E h => ?_) (fun cdv A outer s H vs Q E hr h => ?_)
  · obtain ⟨p, a, tags, most, rfl, _⟩ := h
    rfl
  · obtain ⟨p, a, tags, most, rfl, m1, hp, ha, to, k⟩ := h
    refine ⟨_, (pss_cons (ps_set (i := 3) nd rfl (Or.inl rfl) (pe_lst pa_nil)) (pss_cons (ps_for PassesOwn.never rfl (pi_range1 (by rfl) X.n_range (pa_cons (pe_call (ok__law_take X) (hr.mono (by decide)) rfl X.d__law_take.mg X.d__law_take.F.kp X.d__law_take.b .nil pass0 (pa_cons (pv 0) (pa_cons (pe_op op_add (pv 2) pe_int) pa_nil))) pa_nil)) (pg_name (i := 4) nd rfl (Or.inl rfl)) (pss_cons (ps_expr (QB.pe_bmK K PySem.F.plainAttrs_list PySem.F.slot_list_append PySem.F.type_list_append mt_append (pv 3) (pa_cons (pe_ix (QB.ix_listK K) (pv 1) (pe_call (ok__law_take X) (hr.mono (by decide)) rfl X.d__law_take.mg X.d__law_take.F.kp X.d__law_take.b .nil pass0 (pa_cons (pv 0) (pa_cons (pe_callB (QB.call_lenK K) (by rfl) X.n_len PySem.boot_len (pa_cons (pv 1) pa_nil)) pa_nil))) (fun _ _ => rfl)) pa_nil))) (pss_one (ps_if (pt_cmpR op_eq (pe_call (ok__law_take X) (hr.mono (by decide)) rfl X.d__law_take.mg X.d__law_take.F.kp X.d__law_take.b .nil pass0 (pa_cons (pv 0) (pa_cons pe_int pa_nil))) pe_int (nomark _)) (pss_one (ps_expr (QB.pe_bmK K PySem.F.plainAttrs_list PySem.F.slot_list_append PySem.F.type_list_append mt_append (pv 3) (pa_cons (pe_ix (QB.ix_listK K) (pv 3) (pe_un un_neg pe_int) (fun _ _ => rfl)) pa_nil)))) pss_nil)))) (pss_one (ps_ret (pe_slice (QB.sl_listK K) (pv 3) po_none (po_some (pv 2))))))), ?_⟩
    try dsimp only [Cx.nox, Cx.wish, cxOf]
    have ap := hp.word ha
    refine ⟨by show 0 ≤ sizeLine; decide, fun D hD => ?_⟩
    have hDp := hp.ne hD
    have ha0 : WordAt (upd H D (.lst [])) a tags := (same_new hD) _ _ ha
    refine ⟨_, rfl, _, rfl, _, _, rfl, rfl, ?_⟩
    refine ⟨p, most + 1, rfl, by omega, by omega, hp.upd hDp, fun r H1 hr1 x1 p1 => ⟨_, rfl, by omega, by omega, ?_⟩⟩
    have hD1 : WordAt H1 D [] := x1 _ _ (by simpa using hDp.symm) upd_same
    have xA : Exc [p] H H1 := (Exc.of (same_new hD)).trans x1
    refine for_it (walk_range (lo := 0) (n := r)) (fun i σ H' => ∃ (v4 : Option V) (ys : Word), σ = [some (.ref p), some (.ref a), some (.int (most : Int)), some (.ref D), v4] ∧ Exc [p] H H' ∧ PileAt H' p ∧ WordAt H' D ys ∧ ys.length ≤ 2 * i ∧ ∀ t ∈ ys, t ∈ tags)
      ⟨none, [], rfl, xA, p1, hD1, Nat.zero_le _, fun _ h => nomatch h⟩ (fun _ _ _ _ _ => True.intro) ?_ ?_
    · rintro i x σ H2 H3 hi ⟨v4, ys, rfl, x2, p2, hD2, hl, hy⟩ ⟨rfl, rfl⟩
      have ha2 := wordExc x2 ap ha
      refine ⟨_, rfl, .inl ⟨rfl, _, SqL.of hD2⟩, _, rfl, _, rfl, _, rfl, _, _, rfl, .inl (SqL.of ha2), ?_⟩
      have h1 := to.pos
      have h2 := to.len
      refine ⟨p, tags.length, by rw [vS_len]; rfl, by omega, by omega, p2, fun r3 H4 hr3 x4 p4 => ?_⟩
      have e3 : tags[r3]? = some (tags[r3]'hr3) := List.getElem?_eq_getElem hr3
      have hm3 : tags[r3]'hr3 ∈ tags := List.getElem_mem hr3
      generalize tags[r3]'hr3 = tg at e3 hm3
      have hD4 := wordExc x4 hDp.symm hD2
      refine ⟨a, _, _, _, rfl, rfl, SqL.of (wordExc x4 ap ha2), atI_nat (vS_get e3), ?_⟩
      dsimp only [tNil]
      refine ⟨D, _, _, rfl, rfl, hD4, by rw [vS_len]; exact sz_lt (by omega), ?_⟩
      rw [show vS ys ++ [V.str tg] = vS (ys ++ [tg]) from vS_append ys [tg]]
      have x5 : Exc [p] H (upd H4 D (.lst (vS (ys ++ [tg])))) := (x2.trans x4).mut (.inr hD)
      have p5 := p4.upd (o := .lst (vS (ys ++ [tg]))) hDp
      have hD5 : WordAt (upd H4 D (.lst (vS (ys ++ [tg])))) D (ys ++ [tg]) := upd_same
      generalize upd H4 D (.lst (vS (ys ++ [tg]))) = H5 at x5 p5 hD5 ⊢
      have hy5 : ∀ t ∈ ys ++ [tg], t ∈ tags := fun t ht => by
        rcases List.mem_append.mp ht with h | h
        · exact hy t h
        · rw [List.mem_singleton.mp h]
          exact hm3
      refine ⟨_, rfl, p, 3, rfl, by decide, by decide, p5, fun r6 H6 hr6 x6 p6 => ?_⟩
      have hD6 := wordExc x6 hDp.symm hD5
      refine ⟨rfl, _, rfl, ?_⟩
      generalize decide (_ = V.int 0) = bb
      cases bb
      · refine iteF ?_
        exact ⟨_, _, rfl, x5.trans x6, p6, hD6, by rw [List.length_append]; show _ + 1 ≤ _; omega, hy5⟩
      · refine iteT ?_
        refine ⟨_, rfl, .inl ⟨rfl, _, SqL.of hD6⟩, _, rfl, _, rfl, D, _, _, _, rfl, rfl, SqL.of hD6, by rw [← vS_append]; exact atI_last, ?_⟩
        dsimp only [tNil]
        refine ⟨D, _, _, rfl, rfl, hD6, by rw [vS_len, List.length_append]; exact sz_lt (by show _ + 1 < _; omega), ?_⟩
        refine ⟨_, ys ++ [tg] ++ [tg], rfl, (x5.trans x6).mut (.inr hD), p6.upd hDp, ?_, by rw [List.length_append, List.length_append]; show _ + 1 + 1 ≤ _; omega, fun t ht => ?_⟩
        · unfold WordAt
          rw [upd_same, ← vS_append (ys ++ [tg])]
          rfl
        · rcases List.mem_append.mp ht with h | h
          · exact hy5 t h
          · rw [List.mem_singleton.mp h]
            exact hm3
    · rintro σ H2 ⟨v4, ys, rfl, x2, p2, hD2, hl, hy⟩
      refine ⟨_, rfl, _, rfl, _, rfl, D, _, rfl, SqL.of hD2, fun q hq => ?_⟩
      rw [cut_take, vS_take]
      have s3 := same_new (o := .lst (vS (ys.take most))) hq
      exact k _ q _ (fun t ht => hy t (List.mem_of_mem_take ht)) (by rw [List.length_take]; omega) (x2.trans (.of s3)) (p2.same s3) (hp.free x2 p2 hq) upd_same
end
end Law
end

section

end

section
set_option Elab.async false
set_option linter.all false
set_option maxRecDepth 100000
set_option maxHeartbeats 4000000
namespace Law
open PySem PySem.Spec PyProof.Rows L2 LamX QB QM
/-! what is the same in the laws: the draws change a pile, all else is new -/
theorem pg_tabs {T : List (Addr × Str)} {H H' : Hp} {p : Addr} (t : Tabs T H) (e : Exc [p] H H') (hp : PileAt H p) : Tabs T H' := fun q hq => by
  obtain ⟨ps, h1, h2, h3⟩ := t q hq
  obtain ⟨_, _, _, hp⟩ := hp
  have k : ∀ {a : Addr} {o : HO}, H a = some o → (∀ xs, o ≠ .lst xs) → H' a = some o := fun {a o} h n => e a o (by
    have : a ≠ p := fun z => by
      subst z
      rw [hp] at h
      exact n _ (Option.some.inj h).symm
    simpa using this) h
  refine ⟨ps, k h1 (fun _ z => nomatch z), h2, fun pos cv hc => ?_⟩
  obtain ⟨c, e1, e2⟩ := h3 pos cv hc
  exact ⟨c, e1, k e2 (fun xs z => (show Plain (.lst xs) from trivial).code c _ z.symm)⟩
theorem pg_ext {T : List (Addr × Str)} {H H1 H2 : Hp} {p : Addr} (a : QB.Ext T H H1) (e : Exc [p] H1 H2) (f : Fresh H p) (hp : PileAt H1 p) : QB.Ext T H H2 :=
  ⟨fun b o h n => e b o (by
    have := f.ne h n
    simpa using this) (a.1 b o h n), fun t => pg_tabs (a.2 t) e hp⟩
theorem pg_form {H0 H H' : Hp} {p b : Addr} {L : List Tri} {F : Form} (n : NewF H0 H b L F) (e : Exc [p] H H') (hp : PileAt H0 p) : NewF H0 H' b L F := by
  have ne : ∀ {q : Addr}, Fresh H0 q → q ∉ [p] := fun {q} f hq => by
    obtain ⟨_, _, _, hp⟩ := hp
    rw [List.mem_singleton.mp hq] at f
    exact absurd rfl (f.ne hp)
  refine ⟨e _ _ (ne n.new) n.lst, ⟨paired_mem n.all.at_ fun x s hx q => ?_, n.all.new, n.all.nd⟩, n.new, n.out⟩
  obtain ⟨f1, f2, f3⟩ := n.all.new x hx
  exact ⟨e _ _ (ne f1) q.1, e _ _ (ne f2) q.2.1, e _ _ (ne f3) q.2.2⟩
theorem pg_eat {C e dx a b : Addr} {H0 H H' : Hp} {p : Addr} {L : List Tri} {tags : Word} {G : Form} (n : EatN C H0 H e dx a b L tags G) (x : Exc [p] H H') (hp : PileAt H0 p) : EatN C H0 H' e dx a b L tags G := by
  have ne : ∀ {q : Addr}, Fresh H0 q → q ∉ [p] := fun {q} f hq => by
    obtain ⟨_, _, _, hp⟩ := hp
    rw [List.mem_singleton.mp hq] at f
    exact absurd rfl (f.ne hp)
  exact ⟨x _ _ (ne n.fe) n.ins, x _ _ (ne n.fa) n.tags, pg_form n.form x hp, n.fe, n.fa⟩
theorem pg_pile {T : List (Addr × Str)} {H H' : Hp} {p : Addr} (e : QB.Ext T H H') (h : PileAt H p) : PileAt H' p := by
  obtain ⟨d, c, n, h⟩ := h
  exact ⟨d, c, n, e.lst h⟩
/-- a list of references is no pile -/
theorem pg_refs {H H' : Hp} {p q : Addr} {ts : List Addr} (e : Exc [p] H H') (hp : PileAt H p) (h : H q = some (.lst (ts.map V.ref))) : H' q = some (.lst (ts.map V.ref)) := e q _ (fun hq => by
  obtain ⟨d, c, n, hp⟩ := hp
  rw [List.mem_singleton.mp hq, hp] at h
  have h := HO.lst.inj (Option.some.inj h)
  cases ts with
  | nil => cases h
  | cons t ts =>
    have := (List.cons.inj h).1
    cases this) h
theorem pg_word {H H' : Hp} {p q : Addr} {wd : Word} (e : Exc [p] H H') (hp : PileAt H p) (h : WordAt H q wd) : WordAt H' q wd := wordExc e (hp.word h) h
/-! mathematics -/
theorem make_sub {tags : Word} {F : Form} {wd : Word} (ok : WordsOk tags F) (h : ∀ t ∈ wd, t ∈ tags) : ∀ t ∈ make tags F wd, t ∈ tags := fun t ht => by
  unfold make at ht
  rcases List.mem_append.mp ht with h1 | h1
  · unfold wordOf at h1
    cases e : F[(walk tags F wd).1]? with
    | none =>
      rw [e] at h1
      cases h1
    | some s =>
      rw [e] at h1
      exact ok.sub s (mem_of e) t h1
  · exact h t (List.mem_of_mem_drop h1)
theorem make_len {tags : Word} {F : Form} {wd : Word} {n : Nat} (ok : ∀ s ∈ F, s.1.length ≤ n) : (make tags F wd).length ≤ n + wd.length := by
  unfold make
  rw [List.length_append, List.length_drop]
  have : (wordOf F (walk tags F wd).1).length ≤ n := by
    unfold wordOf
    cases e : F[(walk tags F wd).1]? with
    | none => exact Nat.zero_le _
    | some s => exact ok s (mem_of e)
  omega
theorem least_goodF {tags : Word} {F : Form} (fo : FormOk tags F) : Good tags (least tags F) := least_good fo.good
theorem least_wordsF {tags : Word} {F : Form} (to : TagsOk tags) (fo : FormOk tags F) : WordsOk tags (least tags F) := by
  refine ⟨fun x hx => (to.names x hx).txt, fun s hs t ht => ?_, fun s hs => ?_⟩
  · obtain ⟨s', h1, h2⟩ := least_word fo.good hs
    rw [h2] at ht
    exact (fo.all s' h1).sub t ht
  · obtain ⟨s', h1, h2⟩ := least_word fo.good hs
    rw [h2]
    have := (fo.all s' h1).len
    omega
theorem TagsOk.ok {tags : Word} (to : TagsOk tags) : OkWord tags := fun t ht => (to.names t ht).txt
theorem WordsOk.form {tags : Word} {F : Form} (h : WordsOk tags F) : OkForm F := fun s hs t ht => h.txt t (h.sub s hs t ht)
theorem sub_ok {tags wd : Word} (to : TagsOk tags) (h : ∀ t ∈ wd, t ∈ tags) : OkWord wd := fun t ht => to.ok t (h t ht)
/-- a form of one standing -/
theorem form_one {H : Hp} {p t a b : Addr} {s : Std} (h : H p = some (.lst [.ref t])) (h1 : H t = some (.tup [.ref a, .ref b])) (h2 : WordAt H a s.1) (h3 : WaysAt H b s.2) : FormAt H p [s] := ⟨[t], h, .cons ⟨a, b, h1, h2, h3⟩ .nil⟩
theorem good_one {tags : Word} {w : Word} : Good tags [(w, List.replicate tags.length none)] := by
  refine ⟨by show 0 < 1; decide, fun s hs => ?_, fun s hs n hn => ?_, by show 1 ≤ 5000; decide⟩
  · rw [List.mem_singleton.mp hs]
    exact List.length_replicate
  · rw [List.mem_singleton.mp hs] at hn
    cases List.eq_of_mem_replicate hn
theorem make_one {tags w u : Word} : make tags [(w, List.replicate tags.length none)] u = w ++ u := by
  rw [make_eff]
  cases u with
  | nil => show wordOf _ 0 = _; rw [List.append_nil]; rfl
  | cons t u =>
    rw [eff_cons]
    have e : wayAt tags [(w, List.replicate tags.length none)] 0 t = none := by
      rw [wayAt_std (by show 0 < 1; decide)]
      exact way_none fun x hx => List.eq_of_mem_replicate hx
    rw [e]
    rfl
theorem formOk_one {tags w : Word} (hw : ∀ t ∈ w, t ∈ tags) (hl : w.length ≤ 8) : FormOk tags [(w, List.replicate tags.length none)] := by
  refine ⟨by show 1 ≤ 1; decide, by show 1 ≤ 30; decide, fun s hs => ?_⟩
  rw [List.mem_singleton.mp hs]
  exact ⟨hl, hw, List.length_replicate, fun m hm => by cases List.eq_of_mem_replicate hm⟩
theorem rep_one {α : Type} (n : Nat) (x : α) : (List.replicate n [x]).flatten = List.replicate n x := by
  induction n with
  | zero => rfl
  | succ n ih =>
    rw [List.replicate_succ, List.flatten_cons, ih]
    rfl
theorem vWs_nones (n : Nat) : vWs (List.replicate n none) = List.replicate n V.non := by
  unfold vWs
  rw [List.map_replicate]
  rfl
theorem vS_rep (n : Nat) (t : Str) : vS (List.replicate n t) = List.replicate n (V.str t) := by
  unfold vS
  rw [List.map_replicate]
end Law
end

section
set_option Elab.async false
set_option linter.all false
set_option maxRecDepth 100000
set_option maxHeartbeats 4000000
namespace Law
open PySem PySem.Spec PyProof.Rows L2 LamX QB QM
theorem eq_self {K : PySem.W.Frag} {H : Hp} {x y : V} {d : PyData} {Q : VK} (hx : Dp K H x d) (hy : Dp K H y d) (sh : SeqAt.shaped d = true) (q : Q (.bl true) H) : rEqD K x y H Q :=
  ⟨d, d, hx, hy, sh, sh, by rw [SeqAt.eqv_refl d (SeqAt.canLay_of_shaped sh)]; exact q⟩
theorem ne_self {K : PySem.W.Frag} {H : Hp} {x y : V} {d : PyData} {Q : VK} (hx : Dp K H x d) (hy : Dp K H y d) (sh : SeqAt.shaped d = true) (q : Q (.bl false) H) : rNeD K x y H Q :=
  ⟨d, d, hx, hy, sh, sh, by rw [SeqAt.eqv_refl d (SeqAt.canLay_of_shaped sh)]; exact q⟩
/-- what settled tells -/
def settledOf (tags : Word) (G : Form) (wd : Word) : Option Word :=
  if (walk tags G wd).2 = wd.length ∧ (stdOf G (walk tags G wd).1).2.all Option.isNone = false then none else some (make tags G wd)
def OptW (H : Hp) (v : V) : Option Word → Prop
  | none => v = .non
  | some wd => ∃ z, v = .ref z ∧ WordAt H z wd
theorem OptW.same {H H' : Hp} {v : V} {o : Option Word} (h : OptW H v o) (s : Same H H') : OptW H' v o := by
  cases o with
  | none => exact h
  | some wd =>
    obtain ⟨z, e, h⟩ := h
    exact ⟨z, e, Same.word s h⟩
theorem optW_dp {K : PySem.W.Frag} {H : Hp} {v : V} {o : Option Word} (h : OptW H v o) (ok : ∀ wd, o = some wd → ∀ t ∈ wd, PyData.strOk t = true) : ∃ d, SeqAt.shaped d = true ∧ Dp K H v d ∧ ∀ {H2 : Hp} {v2 : V}, OptW H2 v2 o → Dp K H2 v2 d := by
  cases o with
  | none =>
    have h : v = .non := h
    subst h
    refine ⟨.none, by decide, .non, fun {H2 v2} h2 => ?_⟩
    have h2 : v2 = .non := h2
    subst h2
    exact .non
  | some wd =>
    obtain ⟨z, rfl, h⟩ := h
    refine ⟨.list (txts wd), shaped_word (ok wd rfl), dp_word h, fun {H2 v2} h2 => ?_⟩
    obtain ⟨z2, rfl, h2⟩ := h2
    exact dp_word h2
theorem optW_eq {K : PySem.W.Frag} {H : Hp} {v v2 : V} {o : Option Word} {Q : VK} (h : OptW H v o) (h2 : OptW H v2 o) (ok : ∀ wd, o = some wd → ∀ t ∈ wd, PyData.strOk t = true) (q : Q (.bl true) H) : rEqD K v v2 H Q := by
  obtain ⟨d, sh, d1, d2⟩ := optW_dp (K := K) h ok
  exact eq_self d1 (d2 h2) sh q
section
variable {P : Program} {w : World} {K : PySem.W.Frag} {mg : Str → Option Value} {base : Heap}
def spSettled (C : Addr) : Sp := fun vs H Q _ => ∃ (e c : Addr) (tags : Word) (G : Form) (wd : Word), vs = [.ref e, .ref c] ∧ EatAt C H e tags G ∧ WordAt H c wd ∧ Good tags G ∧ (∀ t ∈ wd, t ∈ tags) ∧ wd.length ≤ 200 ∧ (∀ s ∈ G, s.1.length ≤ 10000) ∧ tags.length ≤ 6 ∧
  ∀ (v : V) (H' : Hp), Same H H' → OptW H' v (settledOf tags G wd) → Q v H'
theorem ok_Eater_settled (X : TX K mg) : FnOk P w K mg base CX0 4 X.d_Eater_settled.a X.d_Eater_settled.fd ["self", "word"] (spSettled X.c_Eater) := by
  have nd := sc_Eater_settled.nd
  refine X.d_Eater_settled.F.ok sc_Eater_settled (fun vs H Q E h => ?_) (fun cdv A outer s H vs Q E hr h => ?_)
  · obtain ⟨e, c, tags, G, wd, rfl, _⟩ := h
    rfl
  · obtain ⟨e, c, tags, G, wd, rfl, ⟨dx, a, b, he, ha, hb⟩, hw, g, hin, hz, hz2, htl, k⟩ := h
    refine ⟨_, (pss_cons (ps_expr (pe_call (ok_check_word X) (hr.mono (by decide)) rfl X.d_check_word.mg X.d_check_word.F.kp X.d_check_word.b .nil pass0 (pa_cons (QB.pe_fldK K (pv 0) rfl) (pa_cons (pv 1) (pa_cons (pe_gc rfl X.c_LONGEST_SUBJECT) pa_nil))))) (pss_cons (ps_asg (pe_call (ok_walked X) (hr.mono (by decide)) rfl X.d_walked.mg X.d_walked.F.kp X.d_walked.b .nil pass0 (pa_cons (QB.pe_fldK K (pv 0) rfl) (pa_cons (QB.pe_fldK K (pv 0) rfl) (pa_cons (pv 1) pa_nil)))) (pg_tup (by rfl) (pgs_cons (pg_name (i := 2) nd rfl (Or.inl rfl)) (pgs_cons (pg_name (i := 3) nd rfl (Or.inl rfl)) (pgs_nil))))) (pss_cons (ps_if (PW.pt (pw_and (pt_cmpR op_eq (pv 3) (pe_callB (QB.call_lenK K) (by rfl) X.n_len PySem.boot_len (pa_cons (pv 1) pa_nil)) (nomark _)) (pw_and1 (pt_not (pt_val (pe_call (ok_is_settled_at X) (hr.mono (by decide)) rfl X.d_is_settled_at.mg X.d_is_settled_at.F.kp X.d_is_settled_at.b .nil pass0 (pa_cons (pe_ix (QB.ix_listK K) (QB.pe_fldK K (pv 0) rfl) (pv 2) (fun _ _ => rfl)) pa_nil))))))) (pss_one (ps_ret pe_non)) pss_nil) (pss_one (ps_ret (pe_call (ok_made X) (hr.mono (by decide)) rfl X.d_made.mg X.d_made.F.kp X.d_made.b .nil pass0 (pa_cons (QB.pe_fldK K (pv 0) rfl) (pa_cons (QB.pe_fldK K (pv 0) rfl) (pa_cons (pv 1) pa_nil))))))))), ?_⟩
    try dsimp only [Cx.nox, Cx.wish, cxOf]
    refine ⟨_, rfl, ⟨e, _, _, _, _, rfl, he, X.cl_Eater, X.na_Eater__tags, rfl, ?_⟩⟩
    refine ⟨_, rfl, ?_⟩
    refine ⟨a, c, tags, wd, 200, rfl, ha, hw, by omega, hin, fun H1 s1 => ?_⟩
    have he := s1 _ _ he
    have ha := Same.word s1 ha
    have hb := Same.form s1 hb
    have hw := Same.word s1 hw
    refine ⟨_, rfl, e, _, _, _, _, rfl, he, X.cl_Eater, X.na_Eater__tags, rfl, ?_⟩
    refine ⟨_, rfl, e, _, _, _, _, rfl, he, X.cl_Eater, X.na_Eater__standings, rfl, ?_⟩
    refine ⟨_, rfl, ?_⟩
    refine ⟨a, b, c, tags, G, wd, rfl, ha, hb, hw, g, hin, by omega, fun tp H2 s2 n2 h2 => ?_⟩
    have he := s2 _ _ he
    have ha := Same.word s2 ha
    have hb := Same.form s2 hb
    have hw := Same.word s2 hw
    have s12 := s1.trans s2
    refine ⟨tp, _, rfl, SqT.of h2, rfl, _, _, rfl, _, _, rfl, rfl, ?_⟩
    have hi := (walk_lt g hin).1
    have go : ∀ {σ : L2.St}, True := fun {_} => trivial
    refine ⟨_, rfl, _, rfl, _, _, rfl, .inl (SqL.of hw), rfl, _, rfl, ?_⟩
    have last : ∀ H3, Same H2 H3 → settledOf tags G wd = some (make tags G wd) → ∀ (p : Addr) (H4 : Hp), Same H3 H4 → H3 p = none → H4 p = some (.lst (vS (make tags G wd))) → Q (.ref p) H4 := fun H3 s3 eo p H4 s4 n4 h4 => k _ H4 (s12.trans (s3.trans s4)) (by rw [eo]; exact ⟨p, rfl, h4⟩)
    by_cases hl : (walk tags G wd).2 = wd.length
    · rw [decide_eq_true (by rw [vS_len, hl])]
      refine iteT ?_
      obtain ⟨vs, t, p1, p2, f1, f2, f3, f4, f5, f6⟩ := hb.at (stdOf_get hi)
      have wl := g.ways (stdOf_get hi)
      refine ⟨_, rfl, e, _, _, _, _, rfl, he, X.cl_Eater, X.na_Eater__standings, rfl, ?_⟩
      refine ⟨_, rfl, b, _, _, _, rfl, rfl, SqL.of f1, atI_nat f3, ?_⟩
      refine ⟨t, p1, p2, _, rfl, f4, f6, by omega, fun H3 s3 => ⟨_, rfl, ?_⟩⟩
      cases hs : (stdOf G (walk tags G wd).1).2.all Option.isNone with
      | false =>
        refine iteT ?_
        exact k _ H3 (s12.trans s3) (by unfold settledOf; rw [if_pos ⟨hl, hs⟩]; rfl)
      | true =>
        refine iteF ?_
        have he := s3 _ _ he
        refine ⟨_, rfl, e, _, _, _, _, rfl, he, X.cl_Eater, X.na_Eater__tags, rfl, ?_⟩
        refine ⟨_, rfl, e, _, _, _, _, rfl, he, X.cl_Eater, X.na_Eater__standings, rfl, ?_⟩
        refine ⟨_, rfl, ?_⟩
        exact ⟨a, b, c, tags, G, wd, rfl, Same.word s3 ha, Same.form s3 hb, Same.word s3 hw, g, hin, by omega, hz2, last H3 s3 (by unfold settledOf; rw [if_neg (fun z => by rw [hs] at z; exact nomatch z.2)])⟩
    · rw [decide_eq_false (by rw [vS_len]; exact fun e => hl (by have := V.int.inj e; omega))]
      refine iteF ?_
      refine ⟨_, rfl, e, _, _, _, _, rfl, he, X.cl_Eater, X.na_Eater__tags, rfl, ?_⟩
      refine ⟨_, rfl, e, _, _, _, _, rfl, he, X.cl_Eater, X.na_Eater__standings, rfl, ?_⟩
      refine ⟨_, rfl, ?_⟩
      exact ⟨a, b, c, tags, G, wd, rfl, ha, hb, hw, g, hin, by omega, hz2, last H2 (Same.refl _) (by unfold settledOf; rw [if_neg (fun z => hl z.1)])⟩
end
end Law
end

section
set_option Elab.async false
set_option linter.all false
set_option maxRecDepth 100000
set_option maxHeartbeats 4000000
namespace Law
open PySem PySem.Spec PyProof.Rows L2 LamX QB QM
/-! how many standings, which words are settled -/
theorem nodup_len {α : Type} [DecidableEq α] : ∀ (l m : List α), l.Nodup → (∀ x ∈ l, x ∈ m) → l.length ≤ m.length
  | [], _, _, _ => Nat.zero_le _
  | x :: l, m, nd, h => by
    have nd := List.nodup_cons.mp nd
    have hx := h x List.mem_cons_self
    have h1 := nodup_len l (m.erase x) nd.2 fun y hy => by
      exact (List.mem_erase_of_ne (fun e : y = x => nd.1 (by rw [← e]; exact hy))).mpr (h y (List.mem_cons_of_mem _ hy))
    rw [List.length_erase_of_mem hx] at h1
    have := List.length_pos_of_mem hx
    show l.length + 1 ≤ _
    omega
section
variable {tags : Word} {F : Form}
theorem lead_make {L : Form} {p : Word} {m : Nat} (h : leads tags L 0 p = some m) (q : Word) : make tags L (p ++ q) = eff tags L m q := by
  rw [make_eff]
  exact leads_eff p q h
theorem lead_more (g : Good tags F) {p r : Word} {t : Str} {m : Nat} (hp : ∀ x ∈ p, x ∈ tags) (ht : t ∈ tags) (hr : ∀ x ∈ r, x ∈ tags) (h : leads tags (least tags F) 0 p = some m) (ne : make tags F (p ++ t :: r) ≠ make tags F p ++ t :: r) : ∃ m', leads tags (least tags F) 0 (p ++ [t]) = some m' := by
  cases e : wayAt tags (least tags F) m t with
  | some b => exact ⟨b, leads_snoc p h e⟩
  | none =>
    have hin : ∀ x ∈ p ++ t :: r, x ∈ tags := fun x hx => by
      rcases List.mem_append.mp hx with z | z
      · exact hp x z
      · rcases List.mem_cons.mp z with z | z
        · exact z ▸ ht
        · exact hr x z
    have a := lead_make h (t :: r)
    have b := lead_make h []
    rw [List.append_nil, least_make g hp] at b
    rw [least_make g hin, eff_cons, e] at a
    have b : make tags F p = wordOf (least tags F) m := b
    exact absurd (a.trans (by rw [b])) ne
/-- at least so many standings as words are told -/
theorem least_many (g : Good tags F) {Xs : List Word} (nd : Xs.Nodup) (u : Word) (h : ∀ X ∈ Xs, ∃ p m, leads tags (least tags F) 0 p = some m ∧ eff tags (least tags F) m u = X) : Xs.length ≤ (least tags F).length := by
  have gl := least_good g
  have := nodup_len Xs ((List.range (least tags F).length).map fun m => eff tags (least tags F) m u) nd fun X hX => by
    obtain ⟨p, m, h1, h2⟩ := h X hX
    exact List.mem_map.mpr ⟨m, List.mem_range.mpr (leads_lt gl p gl.pos h1), h2⟩
  rw [List.length_map, List.length_range] at this
  exact this
theorem lead_rep (g : Good tags F) {t : Str} (ht : t ∈ tags) {n : Nat} (h : ∀ k, k < n → ∃ r : Word, (∀ x ∈ r, x ∈ tags) ∧ make tags F (List.replicate k t ++ t :: r) ≠ make tags F (List.replicate k t) ++ t :: r) : ∀ k, k ≤ n → ∃ m, leads tags (least tags F) 0 (List.replicate k t) = some m
  | 0, _ => ⟨0, rfl⟩
  | k + 1, hk => by
    obtain ⟨m, hm⟩ := lead_rep g ht h k (by omega)
    obtain ⟨r, hr, ne⟩ := h k (by omega)
    rw [List.replicate_succ']
    exact lead_more g (fun x hx => (List.eq_of_mem_replicate hx) ▸ ht) ht hr hm ne
theorem len_one (g : Good tags F) {G : Form} (gG : Good tags G) (nd : tags.Nodup) (h : ∀ u : Word, (∀ t ∈ u, t ∈ tags) → make tags F u = make tags G u) (hl : G.length = 1) : (least tags F).length = 1 := by
  rw [least_same g gG nd h]
  have a := least_len gG
  have b := (least_good gG).pos
  omega
theorem settled_no (g : Good tags F) {wd : Word} (hw : ∀ t ∈ wd, t ∈ tags) (h : ∀ x : Word, ∃ r : Word, (∀ t ∈ r, t ∈ tags) ∧ make tags F (wd ++ r) ≠ x ++ r) : settledOf tags (least tags F) wd = none := by
  have gl := least_good g
  have gm : ∀ r : Word, (∀ t ∈ r, t ∈ tags) → make tags F (wd ++ r) = make tags (least tags F) (wd ++ r) := fun r hr => (least_make g fun x hx => (List.mem_append.mp hx).elim (hw x) (hr x)).symm
  have ap := eff_append gl wd 0
  unfold settledOf
  have ew : walk tags (least tags F) wd = walkFrom tags (least tags F) 0 0 wd := rfl
  rw [ew]
  by_cases z : (walkFrom tags (least tags F) 0 0 wd).2 = wd.length
  · cases a : (stdOf (least tags F) (walkFrom tags (least tags F) 0 0 wd).1).2.all Option.isNone with
    | false => rw [if_pos ⟨z, rfl⟩]
    | true =>
      obtain ⟨r, hr, ne⟩ := h (wordOf (least tags F) (walkFrom tags (least tags F) 0 0 wd).1)
      refine absurd ?_ ne
      have hi := (walk_lt gl hw).1
      rw [ew] at hi
      rw [gm r hr, make_eff, ap r gl.pos hw, if_pos z]
      cases r with
      | nil => exact (List.append_nil _).symm
      | cons t r =>
        rw [eff_cons, wayAt_std hi, way_none fun x hx => Option.isNone_iff_eq_none.mp (List.all_eq_true.mp a x hx)]
  · obtain ⟨r, hr, ne⟩ := h (wordOf (least tags F) (walkFrom tags (least tags F) 0 0 wd).1 ++ wd.drop (walkFrom tags (least tags F) 0 0 wd).2)
    refine absurd ?_ ne
    rw [gm r hr, make_eff, ap r gl.pos hw, if_neg z]
theorem settled_yes (g : Good tags F) (nd : tags.Nodup) {wd x : Word} (hw : ∀ t ∈ wd, t ∈ tags) (h : ∀ r : Word, (∀ t ∈ r, t ∈ tags) → make tags F (wd ++ r) = x ++ r) : settledOf tags (least tags F) wd = some x := by
  have gl := least_good g
  have no : NoIdle tags (least tags F) := fun i j t hi ht w hw => least_none g hi ht w hw
  have gm : ∀ r : Word, (∀ t ∈ r, t ∈ tags) → make tags (least tags F) (wd ++ r) = x ++ r := fun r hr => (least_make g fun x hx => (List.mem_append.mp hx).elim (hw x) (hr x)).trans (h r hr)
  have ap := eff_append gl wd 0
  have ew : walk tags (least tags F) wd = walkFrom tags (least tags F) 0 0 wd := rfl
  have ex : make tags (least tags F) wd = x := by
    have := gm [] (fun _ h => nomatch h)
    rw [List.append_nil, List.append_nil] at this
    exact this
  unfold settledOf
  rw [if_neg, ex]
  rintro ⟨z, a⟩
  have hi := (walk_lt gl hw).1
  rw [ew] at z a hi
  obtain ⟨B, hB⟩ := bound_words (least tags F)
  have key : ∀ r : Word, (∀ t ∈ r, t ∈ tags) → eff tags (least tags F) (walkFrom tags (least tags F) 0 0 wd).1 r = x ++ r := fun r hr => by
    have a := gm r hr
    rw [make_eff, ap r gl.pos hw, if_pos z] at a
    exact a
  have e0 : (stdOf (least tags F) (walkFrom tags (least tags F) 0 0 wd).1).1 = x := by
    have := key [] (fun _ h => nomatch h)
    rw [List.append_nil] at this
    rw [← this]
    exact (wordOf_std hi).symm
  exact not_put gl nd no hB (B + 1) _ hi (by omega) a fun r hr => by rw [e0]; exact key r hr
theorem then_keep {K : Form} (g : Good tags F) (gW : GoodW tags (least tags F)) (gK : Good tags K) (nd : tags.Nodup) (sm : (least tags F).length + K.length ≤ 5000) (hK : ∀ u : Word, (∀ t ∈ u, t ∈ tags) → make tags K u = u) (hm : ∀ u : Word, (∀ t ∈ u, t ∈ tags) → ∀ t ∈ make tags (least tags F) u, t ∈ tags) : least tags (thenForm tags (least tags F) K) = least tags F := by
  rw [least_same (thenForm_good gW gK sm) (least_good g) nd fun u hu => by rw [make_then gW gK hu, hK _ (hm u hu)]]
  exact least_again g nd
end
end Law
end

section
set_option Elab.async false
set_option linter.all false
set_option maxRecDepth 100000
set_option maxHeartbeats 4000000
namespace Law
open PySem PySem.Spec PyProof.Rows L2 LamX QB QM
/-! what the law wants of each maker -/
theorem in_rep {tags : Word} {t : Str} (h : t ∈ tags) (k : Nat) : ∀ x ∈ List.replicate k t, x ∈ tags := fun x hx => List.eq_of_mem_replicate hx ▸ h
theorem rep_app {k n : Nat} {t : Str} : List.replicate k t ++ t :: List.replicate n t = List.replicate (k + (n + 1)) t := by
  rw [← List.replicate_succ, List.replicate_append_replicate]
theorem cnt_rep {sm : Word} {s : Str} (h : s ∈ sm) (r : Word) : ∀ (k : Nat) (o : Option Nat), (∀ n, o = some n → k ≤ n) → cnt sm o (List.replicate k s ++ r) = k + cnt sm (o.map (· - k)) r
  | 0, o, _ => by
    have e : o.map (· - 0) = o := by cases o <;> rfl
    rw [e, Nat.zero_add]
    rfl
  | k + 1, o, ho => by
    have e : (o.map (· - 1)).map (· - k) = o.map (· - (k + 1)) := by
      cases o with
      | none => rfl
      | some n => show some (n - 1 - k) = some (n - (k + 1)); rw [Nat.sub_sub, Nat.add_comm 1 k]
    rw [List.replicate_succ]
    show cnt sm o (s :: (List.replicate k s ++ r)) = _
    rw [cnt_go h (fun z => by have := ho 0 z; omega), cnt_rep h r k _ (fun n z => by
      cases o with
      | none => cases z
      | some m =>
        have := ho m rfl
        have z : m - 1 = n := Option.some.inj z
        omega), e]
    omega
theorem cnt_zero {sm : Word} : ∀ r : Word, cnt sm (some 0) r = 0
  | [] => rfl
  | t :: r => cnt_no fun z => z.2 rfl
theorem cnt_nil : ∀ (w : Word) (o : Option Nat), cnt [] o w = 0
  | [], _ => rfl
  | t :: w, o => cnt_no fun z => nomatch z.1
/-- n or less are taken of many -/
theorem cnt_many {sm : Word} {s : Str} (h : s ∈ sm) {n k : Nat} : cnt sm (some n) (List.replicate k s) = min k n := by
  rcases Nat.le_total k n with z | z
  · have := cnt_rep h [] k (some n) (fun m e => by cases e; exact z)
    rw [List.append_nil] at this
    rw [this, Nat.min_eq_left z]
    rfl
  · have e : List.replicate k s = List.replicate n s ++ List.replicate (k - n) s := by rw [List.replicate_append_replicate]; congr 1; omega
    rw [e, cnt_rep h _ n (some n) (fun m e => by cases e; exact Nat.le_refl _)]
    show n + cnt sm (some (n - n)) _ = _
    rw [Nat.sub_self, cnt_zero, Nat.min_eq_right z]
    rfl
theorem drop_rep {k j : Nat} {s : Str} : (List.replicate k s).drop j = List.replicate (k - j) s := List.drop_replicate
theorem rep_nodup (n : Nat) (s : Str) : ((List.range n).map fun i => List.replicate i s).Nodup := by
  refine List.pairwise_map.mpr (List.nodup_range.imp fun {a b} h e => h ?_)
  have := congrArg List.length e
  rw [List.length_replicate, List.length_replicate] at this
  exact this
/-- an eater that is made -/
structure Mk (tags : Word) (F : Form) (f : Word → Word) : Prop where
  g : Good tags F
  w : WordsOk tags (least tags F)
  len : F.length ≤ 21
  wl : ∀ s ∈ F, s.1.length ≤ 20
  act : ∀ u : Word, (∀ t ∈ u, t ∈ tags) → make tags F u = f u
section
variable {tags : Word} {F : Form} {f : Word → Word}
theorem Mk.good (m : Mk tags F f) : Good tags (least tags F) := least_good m.g
theorem Mk.len2 (m : Mk tags F f) : (least tags F).length ≤ 21 := Nat.le_trans (least_len m.g) m.len
theorem Mk.wl2 (m : Mk tags F f) : ∀ s ∈ least tags F, s.1.length ≤ 20 := fun s hs => by
  obtain ⟨s', h1, h2⟩ := least_word m.g hs
  rw [h2]
  exact m.wl s' h1
theorem Mk.on (m : Mk tags F f) {u : Word} (hu : ∀ t ∈ u, t ∈ tags) : make tags (least tags F) u = f u := (least_make m.g hu).trans (m.act u hu)
theorem Mk.small (m : Mk tags F f) : Small tags (least tags F) := ⟨m.good, m.w, m.len2, fun s hs => Nat.le_succ_of_le (m.wl2 s hs)⟩
theorem Mk.same {F2 : Form} (m : Mk tags F f) (m2 : Mk tags F2 f) (nd : tags.Nodup) : least tags F = least tags F2 := least_same m.g m2.g nd fun u hu => (m.act u hu).trans (m2.act u hu).symm
theorem Mk.idem (m : Mk tags F f) (to : TagsOk tags) (h : ∀ u : Word, (∀ t ∈ u, t ∈ tags) → f (f u) = f u) : pw tags (least tags F) 2 = least tags F := by
  have po := pwOk to m.small 1 (by decide)
  have gT := (pw_step po.good po.words m.good m.w (a := 22) (b := 21) (c := 21) (d := 20) (by have := po.len; omega) m.len2 (by have := po.wl; simpa using this) m.wl2 (by decide) (by decide)).1
  have e : pw tags (least tags F) 2 = least tags (thenForm tags (pw tags (least tags F) 1) (least tags F)) := rfl
  rw [e, least_same gT m.good to.nd fun u hu => ?_, least_again m.g to.nd]
  have h2 := pw_make to m.small hu 2 (by decide)
  rw [e, least_make gT hu] at h2
  rw [h2]
  show make tags (least tags F) (make tags (least tags F) u) = _
  have s := make_sub m.w hu
  rw [m.on s, m.on hu, h u hu]
theorem Mk.keep (m : Mk tags F f) {K : Form} (k : Mk tags K id) (nd : tags.Nodup) : least tags (thenForm tags (least tags F) (least tags K)) = least tags F :=
  then_keep m.g ⟨m.good, m.w.sub⟩ k.good nd (by have := m.len2; have := k.len2; omega) (fun u hu => k.on hu) fun u hu => make_sub m.w hu
end
theorem mk_of {tags : Word} {F : Form} {f : Word → Word} (to : TagsOk tags) (fo : FormOk tags F) (hl : F.length ≤ 21) (act : ∀ u : Word, (∀ t ∈ u, t ∈ tags) → make tags F u = f u) : Mk tags F f := ⟨fo.good, least_wordsF to fo, hl, fun s hs => by have := (fo.all s hs).len; omega, act⟩
def putF (tags wd : Word) : Form := [(wd, List.replicate tags.length none)]
theorem mk_put {tags wd : Word} (to : TagsOk tags) (h : ∀ t ∈ wd, t ∈ tags) (hl : wd.length ≤ 8) : Mk tags (putF tags wd) (fun u => wd ++ u) := mk_of to (formOk_oneM h hl) (by show 1 ≤ 21; decide) fun u _ => put_make
theorem mk_keep {tags : Word} (to : TagsOk tags) : Mk tags (putF tags []) id := mk_of to (formOk_oneM (fun _ h => nomatch h) (Nat.zero_le _)) (by show 1 ≤ 21; decide) fun u _ => put_make
theorem mk_strip {tags sm : Word} {o : Option Nat} (to : TagsOk tags) (h : ∀ n, o = some n → n ≤ 20) : Mk tags (stripForm tags sm o) (fun u => u.drop (cnt sm o u)) := by
  refine mk_of to (stripOk h) ?_ fun u hu => strip_make hu
  cases o with
  | none => show 1 ≤ 21; decide
  | some n =>
    have := h n rfl
    unfold stripForm
    rw [List.length_append, List.length_map, List.length_range]
    show n + 1 ≤ 21
    omega
theorem mk_once {tags : Word} {t : Str} (to : TagsOk tags) (h : t ∈ tags) : Mk tags (onceForm tags t) (fun u => t :: u.drop (cnt [t] (some 1) u)) := mk_of to (onceOk h) (by show 2 ≤ 21; decide) fun u hu => once_make hu
theorem mk_ex {tags : Word} {ps : List (Str × Str)} (to : TagsOk tags) (nd : (ps.map (·.1)).Nodup) (h : ∀ p ∈ ps, p.1 ∈ tags ∧ p.2 ∈ tags) (hl : ps.length ≤ 6) : Mk tags (exForm tags ps) (exch ps) := mk_of to (exOk (fun p hp => (h p hp).2) hl) (by show (ps.map _).length + 1 ≤ 21; rw [List.length_map]; omega) fun u hu => ex_make nd (fun p hp => (h p hp).1) hu
theorem mk_press {tags : Word} {t : Str} {n : Nat} (to : TagsOk tags) (h : t ∈ tags) (hn : n ≤ 20) : Mk tags (pressForm tags t n) (fun u => u.drop (cnt [t] none u - n)) :=
  ⟨press_good h hn, least_wordsG (press_good h hn) (press_words to h hn), by rw [press_len]; omega, fun s hs => Nat.le_trans (press_all h s hs).1 hn, fun u hu => press_make hu⟩
/-! how many standings -/
theorem one_len {tags : Word} {F : Form} {f : Word → Word} (m : Mk tags F f) (h : F.length = 1) : (least tags F).length = 1 := by
  have a := least_len m.g
  have b := m.good.pos
  omega
theorem put_len {tags wd : Word} (to : TagsOk tags) (h : ∀ t ∈ wd, t ∈ tags) (hl : wd.length ≤ 8) : (least tags (putF tags wd)).length = 1 := one_len (mk_put to h hl) rfl
theorem strip_len1 {tags sm : Word} {o : Option Nat} (to : TagsOk tags) (h : ∀ n, o = some n → n ≤ 20) (e : o = none ∨ sm = []) : (least tags (stripForm tags sm o)).length = 1 := by
  rcases e with rfl | rfl
  · exact one_len (mk_strip to h) rfl
  · have m := mk_strip (sm := []) to h
    refine len_one m.g (mk_keep to).g to.nd (fun u hu => ?_) rfl
    rw [m.act u hu, (mk_keep to).act u hu, cnt_nil]
    rfl
theorem strip_lenN {tags sm : Word} {n : Nat} {s : Str} (to : TagsOk tags) (hn : n ≤ 20) (hs : s ∈ sm) (ht : s ∈ tags) : (least tags (stripForm tags sm (some n))).length = n + 1 := by
  have m := mk_strip (sm := sm) (o := some n) to (fun k e => by cases e; exact hn)
  have a : (least tags (stripForm tags sm (some n))).length ≤ n + 1 := by
    have := least_len m.g
    have e : (stripForm tags sm (some n)).length = n + 1 := by
      unfold stripForm
      rw [List.length_append, List.length_map, List.length_range]
      rfl
    omega
  have mk : ∀ k, make tags (stripForm tags sm (some n)) (List.replicate k s) = List.replicate (k - n) s := fun k => by
    rw [m.act _ (in_rep ht k)]
    show (List.replicate k s).drop (cnt sm (some n) (List.replicate k s)) = _
    rw [cnt_many hs, drop_rep]
    congr 1
    omega
  have b := least_many m.g (rep_nodup (n + 1) s) (List.replicate n s) fun X hX => by
    obtain ⟨i, hi, rfl⟩ := List.mem_map.mp hX
    have hi := List.mem_range.mp hi
    obtain ⟨q, hq⟩ := lead_rep m.g ht (n := n) (fun k hk => ⟨[], (fun _ h => nomatch h), fun z => by
      rw [show List.replicate k s ++ [s] = List.replicate (k + 1) s from List.replicate_succ'.symm, mk, mk, show k + 1 - n = 0 by omega] at z
      have := congrArg List.length z
      simp at this⟩) i (by omega)
    refine ⟨_, q, hq, ?_⟩
    rw [← lead_make hq, List.replicate_append_replicate, least_make m.g (in_rep ht _), mk]
    congr 1
    omega
  rw [List.length_map, List.length_range] at b
  omega
theorem once_len {tags : Word} {t : Str} (to : TagsOk tags) (ht : t ∈ tags) : (least tags (onceForm tags t)).length = 2 := by
  have m := mk_once to ht
  have a : (least tags (onceForm tags t)).length ≤ 2 := least_len m.g
  have h1 : make tags (onceForm tags t) [t] = [t] := by
    rw [m.act [t] (in_rep ht 1)]
    show t :: [t].drop (cnt [t] (some 1) [t]) = _
    rw [cnt_go (o := some 1) List.mem_cons_self (by decide)]
    rfl
  have h2 : make tags (onceForm tags t) [t, t] = [t, t] := by
    rw [m.act [t, t] (in_rep ht 2)]
    show t :: [t, t].drop (cnt [t] (some 1) [t, t]) = _
    rw [cnt_go (o := some 1) List.mem_cons_self (by decide)]
    show t :: [t, t].drop (cnt [t] (some 0) [t] + 1) = _
    rw [cnt_zero]
    rfl
  have b := least_many m.g (Xs := [[t], [t, t]]) (by simp) [t] fun X hX => by
    rcases List.mem_cons.mp hX with rfl | hX
    · refine ⟨[], 0, rfl, ?_⟩
      rw [← make_eff, least_make (w := [t]) m.g (in_rep ht 1), h1]
    · rw [List.mem_singleton.mp hX]
      obtain ⟨q, hq⟩ := lead_more m.g (p := []) (r := []) (t := t) (m := 0) (fun _ h => nomatch h) ht (fun _ h => nomatch h) rfl (fun z => by
        have z : make tags (onceForm tags t) [t] = [t] ++ [t] := z
        rw [h1] at z
        have := congrArg List.length z
        simp at this)
      refine ⟨_, q, hq, ?_⟩
      rw [← lead_make hq]
      show make tags (least tags (onceForm tags t)) [t, t] = _
      rw [least_make (w := [t, t]) m.g (in_rep ht 2), h2]
  have b : 2 ≤ (least tags (onceForm tags t)).length := b
  omega
theorem press_rep {tags : Word} {t : Str} {n : Nat} (to : TagsOk tags) (ht : t ∈ tags) (hn : n ≤ 20) (k : Nat) : make tags (pressForm tags t n) (List.replicate k t) = List.replicate (min k n) t := by
  rw [(mk_press to ht hn).act _ (in_rep ht k)]
  show (List.replicate k t).drop (cnt [t] none (List.replicate k t) - n) = _
  have e := cnt_rep (sm := [t]) List.mem_cons_self [] k none (fun _ z => nomatch z)
  rw [List.append_nil] at e
  rw [e, drop_rep]
  show List.replicate (k - (k + 0 - n)) t = _
  congr 1
  omega
theorem press_lenN {tags : Word} {t : Str} {n : Nat} (to : TagsOk tags) (ht : t ∈ tags) (hn : n ≤ 20) : (least tags (pressForm tags t n)).length = n + 1 := by
  have m := mk_press to ht hn
  have a : (least tags (pressForm tags t n)).length ≤ n + 1 := by
    have := least_len m.g
    rw [press_len] at this
    exact this
  have mk := press_rep to ht hn
  have b := least_many m.g (rep_nodup (n + 1) t) [] fun X hX => by
    obtain ⟨i, hi, rfl⟩ := List.mem_map.mp hX
    have hi := List.mem_range.mp hi
    obtain ⟨q, hq⟩ := lead_rep m.g ht (n := n) (fun k hk => ⟨List.replicate n t, in_rep ht n, fun z => by
      rw [rep_app, mk, mk] at z
      have := congrArg List.length z
      rw [List.length_append, List.length_replicate, List.length_replicate, List.length_cons, List.length_replicate] at this
      omega⟩) i (by omega)
    refine ⟨_, q, hq, ?_⟩
    rw [← lead_make hq, List.append_nil, least_make m.g (in_rep ht _), mk]
    congr 1
    omega
  rw [List.length_map, List.length_range] at b
  omega
/-! settled -/
theorem press_set {tags : Word} {t : Str} {n : Nat} (to : TagsOk tags) (ht : t ∈ tags) (hn : n ≤ 20) (k : Nat) : settledOf tags (least tags (pressForm tags t n)) (List.replicate k t) = none := by
  refine settled_no (press_good ht hn) (in_rep ht k) fun x => ⟨List.replicate (n + 1) t, in_rep ht _, fun z => ?_⟩
  rw [List.replicate_append_replicate, press_rep to ht hn] at z
  have := congrArg List.length z
  rw [List.length_append, List.length_replicate, List.length_replicate] at this
  omega
theorem strip_set {tags sm : Word} {n : Nat} {s : Str} (to : TagsOk tags) (hn : n ≤ 20) (hs : s ∈ sm) (ht : s ∈ tags) : settledOf tags (least tags (stripForm tags sm (some n))) (List.replicate n s) = some [] := by
  have m := mk_strip (sm := sm) (o := some n) to (fun k e => by cases e; exact hn)
  refine settled_yes m.g to.nd (in_rep ht n) fun r hr => ?_
  rw [m.act _ fun x hx => (List.mem_append.mp hx).elim (in_rep ht n x) (hr x)]
  show (List.replicate n s ++ r).drop (cnt sm (some n) (List.replicate n s ++ r)) = r
  rw [cnt_rep hs r n (some n) (fun k e => by cases e; exact Nat.le_refl _)]
  show (List.replicate n s ++ r).drop (n + cnt sm (some (n - n)) r) = r
  rw [Nat.sub_self, cnt_zero, Nat.add_zero, List.drop_append_of_le_length (by rw [List.length_replicate]; exact Nat.le_refl _), drop_rep, Nat.sub_self]
  rfl
theorem strip_not {tags sm : Word} {n : Nat} {s : Str} (to : TagsOk tags) (hn : n ≤ 20) (h1 : 1 ≤ n) (hs : s ∈ sm) (ht : s ∈ tags) : settledOf tags (least tags (stripForm tags sm (some n))) (List.replicate (n - 1) s) = none := by
  have m := mk_strip (sm := sm) (o := some n) to (fun k e => by cases e; exact hn)
  have mk : ∀ k, k ≤ n → make tags (stripForm tags sm (some n)) (List.replicate k s) = [] := fun k hk => by
    rw [m.act _ (in_rep ht k)]
    show (List.replicate k s).drop (cnt sm (some n) (List.replicate k s)) = _
    rw [cnt_many hs, drop_rep, show k - min k n = 0 by omega]
    rfl
  refine settled_no m.g (in_rep ht _) fun x => ?_
  cases x with
  | cons y x =>
    refine ⟨[], (fun _ h => nomatch h), fun z => ?_⟩
    rw [List.append_nil, mk _ (by omega)] at z
    cases z
  | nil =>
    refine ⟨[s], in_rep ht 1, fun z => ?_⟩
    rw [show List.replicate (n - 1) s ++ [s] = List.replicate n s by rw [← List.replicate_succ']; congr 1; omega, mk n (Nat.le_refl _)] at z
    cases z
/-! done twice -/
theorem once_idem {t : Str} (u : Word) : (fun u : Word => t :: u.drop (cnt [t] (some 1) u)) ((fun u : Word => t :: u.drop (cnt [t] (some 1) u)) u) = (fun u : Word => t :: u.drop (cnt [t] (some 1) u)) u := by
  show t :: (t :: u.drop _).drop (cnt [t] (some 1) (t :: u.drop _)) = _
  rw [cnt_go (o := some 1) List.mem_cons_self (by decide)]
  show t :: (t :: u.drop _).drop (cnt [t] (some 0) (u.drop _) + 1) = _
  rw [cnt_zero]
  rfl
theorem cnt_drop {sm : Word} : ∀ (j : Nat) (u : Word), j ≤ cnt sm none u → cnt sm none (u.drop j) = cnt sm none u - j
  | 0, u, _ => rfl
  | j + 1, [], h => by cases h
  | j + 1, t :: u, h => by
    by_cases e : t ∈ sm
    · rw [cnt_go (o := none) e (by decide)] at h ⊢
      show cnt sm none (u.drop j) = cnt sm none u + 1 - (j + 1)
      rw [cnt_drop j u (Nat.le_of_succ_le_succ h), Nat.add_sub_add_right]
    · rw [cnt_no fun z => e z.1] at h
      cases h
theorem press_idem {t : Str} {n : Nat} (u : Word) : (fun u : Word => u.drop (cnt [t] none u - n)) ((fun u : Word => u.drop (cnt [t] none u - n)) u) = (fun u : Word => u.drop (cnt [t] none u - n)) u := by
  show (u.drop _).drop (cnt [t] none (u.drop _) - n) = _
  rw [cnt_drop _ u (Nat.sub_le _ _), show cnt [t] none u - (cnt [t] none u - n) - n = 0 by omega]
  rfl
end Law
end

section
set_option Elab.async false
set_option linter.all false
set_option maxRecDepth 100000
set_option maxHeartbeats 4000000
namespace Law
open PySem PySem.Spec PyProof.Rows L2 LamX QB QM
theorem fm_mem {xs : List Str} {x : Str} : ∀ i, i ≤ xs.length → (x ∈ QZ.fm xs i ↔ x ∈ xs.take i)
  | 0, _ => by rw [QZ.fm_zero, List.take_zero]
  | i + 1, h => by
    rw [QZ.fm_succ (by omega), QZ.dd_mem, fm_mem i (by omega), List.take_add_one, List.mem_append, List.getD_eq_getElem?_getD, List.getElem?_eq_getElem (by omega)]
    show _ ∨ x = xs[i] ↔ _ ∨ x ∈ [xs[i]]
    rw [List.mem_singleton]
theorem fm_nodup {xs : List Str} : ∀ i, i ≤ xs.length → (QZ.fm xs i).Nodup
  | 0, _ => List.nodup_nil
  | i + 1, h => by
    rw [QZ.fm_succ (by omega)]
    exact QZ.dd_nodup (fm_nodup i (by omega))
/-- the different tags that stand for another -/
def news (ps : List (Str × Str)) : List Str := (ps.filter fun p => decide (p.1 ≠ p.2)).map (·.2)
def kinds (ps : List (Str × Str)) : List Str := QZ.fm (news ps) (news ps).length
theorem kinds_mem {ps : List (Str × Str)} {x : Str} : x ∈ kinds ps ↔ ∃ p ∈ ps, p.1 ≠ p.2 ∧ p.2 = x := by
  unfold kinds
  rw [fm_mem _ (Nat.le_refl _), List.take_length]
  unfold news
  rw [List.mem_map]
  constructor
  · rintro ⟨p, h, e⟩
    obtain ⟨h1, h2⟩ := List.mem_filter.mp h
    exact ⟨p, h1, of_decide_eq_true h2, e⟩
  · rintro ⟨p, h1, h2, e⟩
    exact ⟨p, List.mem_filter.mpr ⟨h1, decide_eq_true h2⟩, e⟩
theorem exch_none {ps : List (Str × Str)} {t : Str} {u : Word} (h : ∀ p ∈ ps, p.1 ≠ t) : exch ps (t :: u) = t :: u := by
  rw [exch_cons, List.find?_eq_none.mpr fun p hp => by simpa using h p hp]
theorem exch_some {ps : List (Str × Str)} (nd : (ps.map (·.1)).Nodup) {p : Str × Str} {u : Word} (h : p ∈ ps) : exch ps (p.1 :: u) = p.2 :: u := by
  obtain ⟨j, hj⟩ := List.getElem?_of_mem h
  rw [exch_cons, find_at nd hj]
theorem exch_perm {ps qs : List (Str × Str)} (nd : (ps.map (·.1)).Nodup) (nd2 : (qs.map (·.1)).Nodup) (h : ∀ p, p ∈ ps ↔ p ∈ qs) (u : Word) : exch ps u = exch qs u := by
  cases u with
  | nil => rfl
  | cons t u =>
    by_cases z : ∃ p ∈ ps, p.1 = t
    · obtain ⟨p, hp, rfl⟩ := z
      rw [exch_some nd hp, exch_some nd2 ((h p).mp hp)]
    · rw [exch_none fun p hp e => z ⟨p, hp, e⟩, exch_none fun p hp e => z ⟨p, (h p).mpr hp, e⟩]
/-- the least form of an exchange, nearly -/
def exWay (ps : List (Str × Str)) (t : Str) : Option Nat := match ps.find? (fun p => decide (p.1 = t)) with
  | some p => if p.1 = p.2 then none else some ((kinds ps).idxOf p.2 + 1)
  | none => none
def exLeast (tags : Word) (ps : List (Str × Str)) : Form := ([], tags.map (exWay ps)) :: (kinds ps).map fun v => ([v], List.replicate tags.length none)
theorem exWay_none {ps : List (Str × Str)} {t : Str} (h : ∀ p ∈ ps, p.1 ≠ t) : exWay ps t = none := by
  unfold exWay
  rw [List.find?_eq_none.mpr fun p hp => by simpa using h p hp]
theorem exWay_some {ps : List (Str × Str)} (nd : (ps.map (·.1)).Nodup) {p : Str × Str} (h : p ∈ ps) : exWay ps p.1 = if p.1 = p.2 then none else some ((kinds ps).idxOf p.2 + 1) := by
  obtain ⟨j, hj⟩ := List.getElem?_of_mem h
  unfold exWay
  rw [find_at nd hj]
theorem exLeast_len {tags : Word} {ps : List (Str × Str)} : (exLeast tags ps).length = (kinds ps).length + 1 := by
  show (List.map _ _).length + 1 = _
  rw [List.length_map]
theorem exWay_lt {ps : List (Str × Str)} {t : Str} {n : Nat} (nd : (ps.map (·.1)).Nodup) (h : exWay ps t = some n) : n < (kinds ps).length + 1 := by
  by_cases z : ∃ p ∈ ps, p.1 = t
  · obtain ⟨p, hp, rfl⟩ := z
    rw [exWay_some nd hp] at h
    by_cases e : p.1 = p.2
    · rw [if_pos e] at h
      cases h
    · rw [if_neg e] at h
      cases h
      exact Nat.succ_lt_succ (List.idxOf_lt_length_of_mem (kinds_mem.mpr ⟨p, hp, e, rfl⟩))
  · rw [exWay_none fun p hp e => z ⟨p, hp, e⟩] at h
    cases h
theorem kinds_le {ps : List (Str × Str)} : (kinds ps).length ≤ ps.length := by
  have a := QZ.fm_le (xs := news ps) _ (Nat.le_refl _)
  have b : (news ps).length ≤ ps.length := by
    unfold news
    rw [List.length_map]
    exact List.length_filter_le _ _
  exact Nat.le_trans a b
theorem exLeast_good {tags : Word} {ps : List (Str × Str)} (nd : (ps.map (·.1)).Nodup) (hl : ps.length ≤ 6) : Good tags (exLeast tags ps) := by
  have k := kinds_le (ps := ps)
  refine ⟨Nat.succ_pos _, fun s hs => ?_, fun s hs n hn => ?_, by rw [exLeast_len]; omega⟩
  · rcases List.mem_cons.mp hs with rfl | hs
    · exact List.length_map ..
    · obtain ⟨v, _, rfl⟩ := List.mem_map.mp hs
      exact List.length_replicate ..
  · rw [exLeast_len]
    rcases List.mem_cons.mp hs with rfl | hs
    · obtain ⟨t, _, e⟩ := List.mem_map.mp hn
      exact exWay_lt nd e
    · obtain ⟨v, _, rfl⟩ := List.mem_map.mp hs
      cases List.eq_of_mem_replicate hn
theorem exLeast_make {tags : Word} {ps : List (Str × Str)} (nd : (ps.map (·.1)).Nodup) {u : Word} (h : ∀ x ∈ u, x ∈ tags) : make tags (exLeast tags ps) u = exch ps u := by
  rw [make_eff]
  cases u with
  | nil => rfl
  | cons t u =>
    have ht := h t List.mem_cons_self
    have hlt : tags.idxOf t < tags.length := List.idxOf_lt_length_of_mem ht
    have w : way tags ([], tags.map (exWay ps)) t = exWay ps t := by
      unfold way ixOf
      show ((tags.map _)[tags.idxOf t]?).join = _
      rw [List.getElem?_map, List.getElem?_eq_getElem hlt, List.getElem_idxOf]
      rfl
    rw [eff_cons, wayAt_of (F := exLeast tags ps) (k := 0) (s := ([], tags.map (exWay ps))) rfl, w]
    by_cases z : ∃ p ∈ ps, p.1 = t
    · obtain ⟨p, hp, rfl⟩ := z
      rw [exWay_some nd hp, exch_some nd hp]
      by_cases e : p.1 = p.2
      · rw [if_pos e, ← e]
        rfl
      · rw [if_neg e]
        show eff tags (exLeast tags ps) ((kinds ps).idxOf p.2 + 1) u = _
        have hk := List.idxOf_lt_length_of_mem (kinds_mem.mpr ⟨p, hp, e, rfl⟩)
        rw [eff_rest (wd := [p.2]) (by
          show (_ :: (kinds ps).map _)[(kinds ps).idxOf p.2 + 1]? = _
          rw [List.getElem?_cons_succ, List.getElem?_map, List.getElem?_eq_getElem hk, List.getElem_idxOf]
          rfl)]
        rfl
    · rw [exWay_none fun p hp e => z ⟨p, hp, e⟩, exch_none fun p hp e => z ⟨p, hp, e⟩]
      rfl
theorem ex_len {tags : Word} {ps : List (Str × Str)} (to : TagsOk tags) (nd : (ps.map (·.1)).Nodup) (h : ∀ p ∈ ps, p.1 ∈ tags ∧ p.2 ∈ tags) (hl : ps.length ≤ 6) : (least tags (exForm tags ps)).length = 1 + (kinds ps).length := by
  have m := mk_ex to nd h hl
  have a : (least tags (exForm tags ps)).length ≤ (kinds ps).length + 1 := by
    rw [least_same m.g (exLeast_good nd hl) to.nd fun u hu => (m.act u hu).trans (exLeast_make nd hu).symm]
    have := least_len (exLeast_good (tags := tags) nd hl)
    rw [exLeast_len] at this
    exact this
  have ndX : (([] : Word) :: (kinds ps).map fun v => [v]).Nodup := by
    refine List.nodup_cons.mpr ⟨fun z => ?_, List.pairwise_map.mpr ((fm_nodup _ (Nat.le_refl _)).imp fun n e => n (List.cons.inj e).1)⟩
    obtain ⟨v, _, e⟩ := List.mem_map.mp z
    cases e
  have b := least_many m.g ndX [] fun X hX => by
    rcases List.mem_cons.mp hX with rfl | hX
    · refine ⟨[], 0, rfl, ?_⟩
      rw [← make_eff, least_make (w := []) m.g (fun _ h => nomatch h), m.act [] (fun _ h => nomatch h)]
      rfl
    · obtain ⟨v, hv, rfl⟩ := List.mem_map.mp hX
      obtain ⟨p, hp, ne, rfl⟩ := kinds_mem.mp hv
      have hin := in_rep (h p hp).1 1
      have h1 : make tags (exForm tags ps) [p.1] = [p.2] := by rw [m.act [p.1] hin, exch_some nd hp]
      obtain ⟨q, hq⟩ := lead_more m.g (p := []) (r := []) (t := p.1) (m := 0) (fun _ h => nomatch h) (h p hp).1 (fun _ h => nomatch h) rfl (fun z => by
        have z : make tags (exForm tags ps) [p.1] = make tags (exForm tags ps) [] ++ [p.1] := z
        rw [h1, m.act [] (fun _ h => nomatch h)] at z
        exact ne (List.cons.inj z).1.symm)
      refine ⟨_, q, hq, ?_⟩
      rw [← lead_make hq]
      show make tags (least tags (exForm tags ps)) [p.1] = _
      rw [least_make (w := [p.1]) m.g hin, h1]
  rw [List.length_cons, List.length_map] at b
  omega
end Law
end

section
set_option Elab.async false
set_option linter.all false
set_option maxRecDepth 100000
set_option maxHeartbeats 4000000
namespace Law
open PySem PySem.Spec PyProof.Rows L2 LamX QB QM
section
variable {P : Program} {w : World} {K : PySem.W.Frag} {mg : Str → Option Value} {base : Heap}
def spStripped : Sp := fun vs H Q _ => ∃ (a b : Addr) (wd sm : Word) (o : Option Nat), vs = [.ref a, .ref b, noV o] ∧ WordAt H a wd ∧ WordAt H b sm ∧ ∀ q, H q = none → Q (.ref q) (upd H q (.lst (vS (wd.drop (cnt sm o wd)))))
theorem ok__law_stripped (X : TX K mg) : FnOk P w K mg base CX0 3 X.d__law_stripped.a X.d__law_stripped.fd ["subject", "some", "most"] spStripped := by
  have nd := sc__law_stripped.nd
  refine X.d__law_stripped.F.ok sc__law_stripped (fun vs H Q E h => ?_) (fun cdv A outer s H vs Q E hr h => ?_)
  · obtain ⟨a, b, wd, sm, o, rfl, _⟩ := h
    rfl
  · obtain ⟨a, b, wd, sm, o, rfl, ha, hb, k⟩ := h
    refine ⟨_, (pss_cons (ps_set (i := 3) nd rfl (Or.inl rfl) pe_int) (pss_cons (ps_while PassesOwn.never (PW.pt (pw_and (pt_cmpR op_lt (pv 3) (pe_callB (QB.call_lenK K) (by rfl) X.n_len PySem.boot_len (pa_cons (pv 0) pa_nil)) (nomark _)) (pw_and (pt_cmpR (QB.op_inK K) (pe_ix (QB.ix_listK K) (pv 0) (pv 3) (fun _ _ => rfl)) (pv 1) rfl) (pw_and1 (PW.pt (pw_or (pt_cmpR op_isN (pv 2) pe_non (nomark _)) (pw_or1 (pt_cmpR op_lt (pv 3) (pv 2) (nomark _))))))))) (pss_one (ps_set (i := 3) nd rfl (Or.inl rfl) (pe_op op_add (pv 3) pe_int)))) (pss_one (ps_ret (pe_slice (QB.sl_listK K) (pv 0) (po_some (pv 3)) po_none))))), ?_⟩
    try dsimp only [Cx.nox, Cx.wish, cxOf]
    refine ⟨fun m σ H' => H' = H ∧ ∃ c : Nat, σ = [some (.ref a), some (.ref b), some (noV o), some (.int (c : Int))] ∧ m = wd.length - c ∧ c ≤ wd.length ∧ ∀ i t, i < c → wd[i]? = some t → t ∈ sm ∧ ∀ n, o = some n → i < n, ⟨_, rfl, 0, rfl, rfl, Nat.zero_le _, fun i t h => absurd h (Nat.not_lt_zero _)⟩, ?_⟩
    rintro m σ H1 ⟨rfl, c, rfl, rfl, hc, hin⟩
    have stop : (∀ t, wd[c]? = some t → ¬ (t ∈ sm ∧ ∀ n, o = some n → c < n)) → ∀ q, H1 q = none → Q (.ref q) (upd H1 q (.lst (vS (wd.drop c)))) := fun h q hq => by
      have := k q hq
      rw [cnt_more c wd o hin hc h] at this
      exact this
    refine ⟨_, rfl, _, rfl, _, _, rfl, .inl (SqL.of ha), _, _, rfl, rfl, ?_⟩
    refine ⟨_, rfl, ?_⟩
    have fin : (∀ t, wd[c]? = some t → ¬ (t ∈ sm ∧ ∀ n, o = some n → c < n)) → tRet (tSl (rSlL K) (tVar 0) (tPart (tVar 3)) tNoPart) { nx := fun x H' => Q V.non H', rt := Q } [some (V.ref a), some (V.ref b), some (noV o), some (V.int ↑c)] H1 := fun h => by
      refine ⟨_, rfl, _, rfl, _, rfl, _, _, rfl, SqL.of ha, fun q hq => ?_⟩
      rw [cut_drop, vS_drop]
      exact stop h q hq
    by_cases h1 : c < wd.length
    · rw [decide_eq_true (by rw [vS_len]; omega)]
      refine iteT ?_
      have ew : wd[c]? = some (wd[c]'h1) := List.getElem?_eq_getElem h1
      generalize wd[c]'h1 = x at ew
      refine ⟨_, rfl, _, rfl, _, _, _, _, rfl, rfl, SqL.of ha, atI_nat (vS_get ew), ?_⟩
      have go : x ∈ sm → (∀ n, o = some n → c < n) → ∃ N : L2.St → Hp → Prop, (∀ (σ' : L2.St) (H' : Hp), N σ' H' → ∃ m', m' < List.length wd - c ∧ (H' = H1 ∧ ∃ c : Nat, σ' = [some (V.ref a), some (V.ref b), some (noV o), some (V.int ↑c)] ∧ m' = List.length wd - c ∧ c ≤ List.length wd ∧ ∀ (i : Nat) (t : Str), i < c → wd[i]? = some t → t ∈ sm ∧ ∀ (n : Nat), o = some n → i < n)) ∧ N [some (V.ref a), some (V.ref b), some (noV o), some (V.int ((c : Int) + 1))] H1 := fun hx ho => by
        refine ⟨fun σ' H' => σ' = [some (V.ref a), some (V.ref b), some (noV o), some (V.int ((c : Int) + 1))] ∧ H' = H1, ?_, rfl, rfl⟩
        rintro σ' H' ⟨rfl, rfl⟩
        refine ⟨wd.length - (c + 1), by omega, rfl, c + 1, rfl, rfl, h1, fun i t hi ht => ?_⟩
        rcases Nat.lt_or_ge i c with z | z
        · exact hin i t z ht
        · have e : i = c := by omega
          subst e
          rw [ew] at ht
          cases ht
          exact ⟨hx, ho⟩
      refine ⟨_, rfl, _, _, rfl, .inl (SqL.of hb), rfl, vS_flat, _, rfl, ?_⟩
      rw [if_neg Bool.false_ne_true, inV_word]
      by_cases hx : x ∈ sm
      · rw [decide_eq_true hx]
        refine iteT ?_
        refine ⟨_, rfl, rfl, _, rfl, ?_⟩
        cases o with
        | none =>
          rw [decide_eq_true (show noV none = V.non from rfl)]
          refine iteT (iteT ?_)
          obtain ⟨N, h, n⟩ := go hx (fun _ z => nomatch z)
          exact ⟨N, h, _, rfl, _, _, rfl, rfl, n⟩
        | some n =>
          rw [decide_eq_false (show ¬ noV (some n) = V.non from fun z => nomatch z)]
          refine iteF ?_
          refine ⟨_, rfl, _, rfl, _, _, rfl, rfl, _, rfl, ?_⟩
          by_cases hn : c < n
          · rw [decide_eq_true (by omega)]
            refine iteT ?_
            obtain ⟨N, h, n⟩ := go hx (fun m z => by cases z; exact hn)
            exact ⟨N, h, _, rfl, _, _, rfl, rfl, n⟩
          · rw [decide_eq_false (by omega)]
            refine iteF ?_
            exact fin fun t h z => hn (z.2 n rfl)
      · rw [decide_eq_false hx]
        refine iteF (iteF ?_)
        exact fin fun t h z => by
          rw [ew] at h
          cases h
          exact hx z.1
    · rw [decide_eq_false (by rw [vS_len]; omega)]
      refine iteF (iteF ?_)
      exact fin fun t h => absurd (List.getElem?_eq_some_iff.mp h).1 h1
def spPressed : Sp := fun vs H Q _ => ∃ (a : Addr) (wd : Word) (t : Str) (n : Nat), vs = [.ref a, .str t, .int (n : Int)] ∧ WordAt H a wd ∧ ∀ q H', Same H H' → H q = none → WordAt H' q (wd.drop (cnt [t] none wd - n)) → Q (.ref q) H'
theorem ok__law_pressed (X : TX K mg) : FnOk P w K mg base CX0 4 X.d__law_pressed.a X.d__law_pressed.fd ["subject", "tag", "most"] spPressed := by
  have nd := sc__law_pressed.nd
  refine X.d__law_pressed.F.ok sc__law_pressed (fun vs H Q E h => ?_) (fun cdv A outer s H vs Q E hr h => ?_)
  · obtain ⟨a, wd, t, n, rfl, _⟩ := h
    rfl
  · obtain ⟨a, wd, t, n, rfl, ha, k⟩ := h
    refine ⟨_, (pss_cons (ps_set (i := 3) nd rfl (Or.inl rfl) (pe_op op_sub (pe_callB (QB.call_lenK K) (by rfl) X.n_len PySem.boot_len (pa_cons (pv 0) pa_nil)) (pe_callB (QB.call_lenK K) (by rfl) X.n_len PySem.boot_len (pa_cons (pe_call (ok__law_stripped X) (hr.mono (by decide)) rfl X.d__law_stripped.mg X.d__law_stripped.F.kp X.d__law_stripped.b .nil pass0 (pa_cons (pv 0) (pa_cons (pe_lst (pa_cons (pv 1) pa_nil)) (pa_cons pe_non pa_nil)))) pa_nil)))) (pss_one (ps_ret (pe_slice (QB.sl_listK K) (pv 0) (po_some (pe_callB (call_max2 rfl) (by rfl) X.n_max QB.bo_max (pa_cons pe_int (pa_cons (pe_op op_sub (pv 3) (pv 2)) pa_nil)))) po_none)))), ?_⟩
    try dsimp only [Cx.nox, Cx.wish, cxOf]
    refine ⟨_, rfl, _, _, rfl, .inl (SqL.of ha), ?_⟩
    refine ⟨_, rfl, _, rfl, by show 1 ≤ sizeLine; decide, fun r hr => ?_⟩
    have s1 := same_new (o := .lst [V.str t]) hr
    have h1 : WordAt (upd H r (.lst [V.str t])) r [t] := upd_same
    refine ⟨a, r, wd, [t], none, rfl, Same.word s1 ha, h1, fun q hq => ?_⟩
    have s2 := Same.new s1 (o := .lst (vS (wd.drop (cnt [t] none wd)))) hq
    have h2 : WordAt (upd (upd H r (.lst [V.str t])) q (.lst (vS (wd.drop (cnt [t] none wd))))) q (wd.drop (cnt [t] none wd)) := upd_same
    refine ⟨_, _, rfl, .inl (SqL.of h2), _, _, rfl, rfl, ?_⟩
    have hc := cnt_le (sm := [t]) wd none
    refine ⟨_, rfl, _, rfl, _, rfl, _, _, rfl, rfl, _, _, rfl, _, rfl, ?_⟩
    rw [show (if ((vS wd).length : Int) - ((vS (wd.drop (cnt [t] none wd))).length : Int) - (n : Int) > 0 then ((vS wd).length : Int) - ((vS (wd.drop (cnt [t] none wd))).length : Int) - (n : Int) else 0) = ((cnt [t] none wd - n : Nat) : Int) by
      rw [vS_len, vS_len, List.length_drop]
      split <;> omega]
    refine ⟨_, _, rfl, SqL.of (Same.word s2 ha), fun p hp => ?_⟩
    rw [cut_drop, vS_drop]
    have s3 := Same.new s2 (o := .lst (vS (wd.drop (cnt [t] none wd - n)))) hp
    exact k p _ s3 (s2.free hp) upd_same
def spExchanged : Sp := fun vs H Q _ => ∃ (a b : Addr) (wd : Word) (ps : List (Str × Str)), vs = [.ref a, .ref b] ∧ WordAt H a wd ∧ PairsAt H b ps ∧ (ps.map (·.1)).Nodup ∧ OkWord wd ∧ (∀ p ∈ ps, PyData.strOk p.1 = true) ∧ wd.length ≤ 200 ∧ ∀ q H', Same H H' → WordAt H' q (exch ps wd) → Q (.ref q) H'
theorem ok__law_exchanged (X : TX K mg) : FnOk P w K mg base CX0 3 X.d__law_exchanged.a X.d__law_exchanged.fd ["subject", "pairs"] spExchanged := by
  have nd := sc__law_exchanged.nd
  refine X.d__law_exchanged.F.ok sc__law_exchanged (fun vs H Q E h => ?_) (fun cdv A outer s H vs Q E hr h => ?_)
  · obtain ⟨a, b, wd, ps, rfl, _⟩ := h
    rfl
  · obtain ⟨a, b, wd, ps, rfl, ha, ⟨ts, hb, hp⟩, ndp, ok, okp, hl, k⟩ := h
    refine ⟨_, (pss_cons (ps_for PassesOwn.never rfl (QB.pi_listK K (pv 1)) (pg_tup (by rfl) (pgs_cons (pg_name (i := 2) nd rfl (Or.inl rfl)) (pgs_cons (pg_name (i := 3) nd rfl (Or.inl rfl)) (pgs_nil)))) (pss_one (ps_if (pt_cmpR (QB.op_eqDK K hr.units) (pe_slice (QB.sl_listK K) (pv 0) po_none (po_some pe_int)) (pe_lst (pa_cons (pv 2) pa_nil)) (nomark _)) (pss_one (ps_ret (pe_op op_cat (pe_lst (pa_cons (pv 3) pa_nil)) (pe_slice (QB.sl_listK K) (pv 0) (po_some pe_int) po_none)))) pss_nil))) (pss_one (ps_ret (pv 0)))), ?_⟩
    try dsimp only [Cx.nox, Cx.wish, cxOf]
    have tl := hp.length
    refine ⟨_, rfl, _, rfl, ⟨_, SqL.of hb⟩, ?_⟩
    refine for_it (walk_list (K := K) (a := b) (xs := ts.map V.ref)) (fun i σ H' => ∃ v2 v3 : Option V, σ = [some (.ref a), some (.ref b), v2, v3] ∧ Same H H' ∧ ∀ j p, j < i → ps[j]? = some p → ∀ t u, wd = t :: u → p.1 ≠ t)
      ⟨none, none, rfl, Same.refl _, fun j p h => absurd h (Nat.not_lt_zero _)⟩ (fun i σ H' _ ⟨_, _, _, s1, _⟩ => SqL.of (s1 _ _ hb)) ?_ ?_
    · rintro i v σ H1 H2 hi ⟨v2, v3, rfl, s1, hno⟩ ⟨rfl, hv⟩
      have hi : i < ts.length := by rw [List.length_map] at hi; exact hi
      have et : ts[i]? = some (ts[i]'hi) := List.getElem?_eq_getElem hi
      rw [List.getElem?_map, et] at hv
      cases hv
      obtain ⟨p, ep, hq⟩ := paired_get' hp et
      have hq1 := s1 _ _ hq
      refine ⟨_, _, rfl, SqT.of hq1, rfl, _, _, rfl, _, _, rfl, rfl, ?_⟩
      refine ⟨_, rfl, _, rfl, _, _, rfl, SqL.of (Same.word s1 ha), fun q hq => ?_⟩
      have s2 := Same.new s1 (o := .lst (cutV (vS wd) none (some 1))) hq
      have h2 : upd H2 q (.lst (cutV (vS wd) none (some 1))) q = some (.lst (vS (wd.take 1))) := by rw [upd_same, show cutV (vS wd) none (some 1) = vS (wd.take 1) from (cut_take (vS wd) 1).trans (vS_take wd 1)]
      generalize upd H2 q (.lst (cutV (vS wd) none (some 1))) = H3 at s2 h2 ⊢
      refine ⟨_, rfl, by show 1 ≤ sizeLine; decide, fun r hr => ?_⟩
      have s3 := Same.new s2 (o := .lst [V.str p.1]) hr
      have h3 : WordAt (upd H3 r (.lst [V.str p.1])) r [p.1] := upd_same
      have h2 := (same_new (o := .lst [V.str p.1]) hr) _ _ h2
      generalize upd H3 r (.lst [V.str p.1]) = H4 at s3 h3 h2 ⊢
      have op := okp p (List.mem_of_getElem? ep)
      refine eq_words h2 h3 (fun x hx => ok x (List.mem_of_mem_take hx)) (fun x hx => by rw [List.mem_singleton.mp hx]; exact op) ⟨_, rfl, ?_⟩
      by_cases e : wd.take 1 = [p.1]
      · rw [decide_eq_true e]
        refine iteT ?_
        have hl0 := hl
        obtain ⟨u, rfl⟩ : ∃ u, wd = p.1 :: u := by
          cases wd with
          | nil => cases e
          | cons t u =>
            have e : [t] = [p.1] := e
            exact ⟨u, by rw [(List.cons.inj e).1]⟩
        refine ⟨_, rfl, by show 1 ≤ sizeLine; decide, fun l hl => ?_⟩
        have s5 := Same.new s3 (o := .lst [V.str p.2]) hl
        have h5 : WordAt (upd H4 l (.lst [V.str p.2])) l [p.2] := upd_same
        generalize upd H4 l (.lst [V.str p.2]) = H5 at s5 h5 ⊢
        refine ⟨_, rfl, _, rfl, _, _, rfl, SqL.of (Same.word s5 ha), fun m hm => ?_⟩
        rw [show cutV (vS (p.1 :: u)) (some 1) none = vS u by
          show cutV (vS (p.1 :: u)) (some ((1 : Nat) : Int)) none = _
          rw [cut_drop, vS_drop]
          rfl]
        have s6 := Same.new s5 (o := .lst (vS u)) hm
        have h6 : WordAt (upd H5 m (.lst (vS u))) m u := upd_same
        have h5 := (same_new (o := .lst (vS u)) hm) _ _ h5
        generalize upd H5 m (.lst (vS u)) = H6 at s6 h6 h5 ⊢
        refine ⟨l, m, _, _, rfl, rfl, h5, h6, by rw [vS_len, vS_len]; exact Nat.le_of_lt (sz_lt (by show 1 + u.length < _; have : u.length + 1 ≤ 200 := hl0; omega)), fun z hz => ?_⟩
        rw [vS_append]
        have s7 := Same.new s6 (o := .lst (vS ([p.2] ++ u))) hz
        exact k z _ s7 (by rw [exch_some ndp (List.mem_of_getElem? ep)]; exact upd_same)
      · rw [decide_eq_false e]
        refine iteF ⟨_, _, rfl, s3, fun j p' hj hp' t u ew => ?_⟩
        rcases Nat.lt_or_ge j i with z | z
        · exact hno j p' z hp' t u ew
        · have : j = i := by omega
          subst this
          rw [ep] at hp'
          cases hp'
          intro z
          rw [ew, z] at e
          exact e rfl
    · rintro σ H2 ⟨v2, v3, rfl, s1, hno⟩
      refine ⟨_, rfl, k a H2 s1 ?_⟩
      have e : exch ps wd = wd := by
        cases wd with
        | nil => rfl
        | cons t u =>
          refine exch_none fun p hp e => ?_
          obtain ⟨j, hj⟩ := List.getElem?_of_mem hp
          exact hno j p (by rw [List.length_map, tl]; exact (List.getElem?_eq_some_iff.mp hj).1) hj t u rfl e
      rw [e]
      exact Same.word s1 ha
end
end Law
end

section
set_option Elab.async false
set_option linter.all false
set_option maxRecDepth 100000
set_option maxHeartbeats 4000000
namespace Law
open PySem PySem.Spec PyProof.Rows L2 LamX QB QM
/-! the heap without some lists and without tables -/
def hideT (M : List Addr) (H : Hp) : Hp := fun a => if a ∈ M then none else match H a with
  | some (.tbl _) => none
  | o => o
theorem hideT_at {M : List Addr} {a : Addr} {H : Hp} {o : HO} (n : a ∉ M) (h : H a = some o) (nt : ∀ ps, o ≠ .tbl ps := by intro _ z; cases z) : hideT M H a = some o := by
  unfold hideT
  rw [if_neg n, h]
  cases o with
  | tbl ps => exact absurd rfl (nt ps)
  | _ => rfl
theorem hideT_get {M : List Addr} {a : Addr} {H : Hp} {o : HO} (h : hideT M H a = some o) : a ∉ M ∧ H a = some o ∧ ∀ ps, o ≠ .tbl ps := by
  unfold hideT at h
  by_cases e : a ∈ M
  · rw [if_pos e] at h
    cases h
  · rw [if_neg e] at h
    refine ⟨e, ?_⟩
    cases q : H a with
    | none =>
      rw [q] at h
      cases h
    | some u =>
      rw [q] at h
      cases u with
      | tbl ps => cases h
      | _ =>
        cases h
        exact ⟨rfl, fun _ z => nomatch z⟩
theorem hideT_exc {M N : List Addr} {H H' : Hp} (h : ∀ n ∈ N, n ∈ M) (x : Exc N H H') : Same (hideT M H) (hideT M H') := fun b o z => by
  obtain ⟨n, z, t⟩ := hideT_get z
  exact hideT_at n (x b o (fun y => n (h b y)) z) t
theorem hideT_ext {T : List (Addr × Str)} {M : List Addr} {H H' : Hp} (x : QB.Ext T H H') : Same (hideT M H) (hideT M H') := fun b o z => by
  obtain ⟨n, z, t⟩ := hideT_get z
  exact hideT_at n (x.get z t) t
theorem hideT_same {M : List Addr} {H H' : Hp} (x : Same H H') : Same (hideT M H) (hideT M H') := hideT_exc (N := []) (fun _ h => nomatch h) (.of x)
theorem hideT_sub {M : List Addr} {H : Hp} : Same (hideT M H) H := fun b o z => (hideT_get z).2.1
theorem hideT_grow {M : List Addr} {H H' : Hp} {d : Addr} (n : H d = none) (s : Same H H') : Same (hideT M H) (hideT (d :: M) H') := fun b u z => by
  obtain ⟨h1, h2, h3⟩ := hideT_get z
  have e : b ≠ d := ne_of_none h2 n
  exact hideT_at (fun y => (List.mem_cons.mp y).elim e h1) (s _ _ h2) h3
theorem hideT_less {M : List Addr} {H : Hp} {d : Addr} : Same (hideT (d :: M) H) (hideT M H) := fun b u z => by
  obtain ⟨h1, h2, h3⟩ := hideT_get z
  exact hideT_at (fun y => h1 (List.mem_cons_of_mem _ y)) h2 h3
theorem nf_hide {M : List Addr} {H0 H : Hp} {f : Addr} {L : List Tri} {F : Form} (ls : ∀ b ∈ M, ∃ xs, H0 b = some (.lst xs)) (n : NewF H0 H f L F) : FormAt (hideT M H) f F := by
  have out : ∀ {a : Addr}, Fresh H0 a → a ∉ M := fun {a} fr z => by
    obtain ⟨xs, h⟩ := ls a z
    exact absurd rfl (fr.ne h)
  refine ⟨L.map (·.1), ?_, ?_⟩
  · have h := hideT_at (out n.new) n.lst
    rw [h, List.map_map]
    rfl
  · have key : ∀ {L' : List Tri} {F' : Form}, Paired (fun (x : Tri) (s : Std) => H x.1 = some (.tup [.ref x.2.1, .ref x.2.2]) ∧ WordAt H x.2.1 s.1 ∧ WaysAt H x.2.2 s.2) L' F' → (∀ x ∈ L', x ∈ L) → Paired (StdAt (hideT M H)) (L'.map (·.1)) F' := by
      intro L' F' h
      induction h with
      | nil => exact fun _ => .nil
      | cons h _ ih =>
        intro hm
        obtain ⟨f1, f2, f3⟩ := n.all.new _ (hm _ List.mem_cons_self)
        exact .cons ⟨_, _, hideT_at (out f1) h.1, hideT_at (out f2) h.2.1, hideT_at (out f3) h.2.2⟩ (ih fun x hx => hm x (List.mem_cons_of_mem _ hx))
    exact key n.all.at_ fun _ h => h
theorem ea_hide {C : Addr} {M : List Addr} {H0 H : Hp} {e dx a b : Addr} {L : List Tri} {tags : Word} {G : Form} (ls : ∀ b ∈ M, ∃ xs, H0 b = some (.lst xs)) (n : EatN C H0 H e dx a b L tags G) : EatAt C (hideT M H) e tags G := by
  have out : ∀ {a : Addr}, Fresh H0 a → a ∉ M := fun {a} fr z => by
    obtain ⟨xs, h⟩ := ls a z
    exact absurd rfl (fr.ne h)
  exact ⟨dx, a, b, hideT_at (out n.fe) n.ins, hideT_at (out n.fa) n.tags, nf_hide ls n.form⟩


theorem tabs_put {T : List (Addr × Str)} {H : Hp} {q : Addr} {xs ys : List V} (t : Tabs T H) (h : H q = some (.lst xs)) : Tabs T (upd H q (.lst ys)) := fun c hc => by
  obtain ⟨ps, h1, h2, h3⟩ := t c hc
  have k : ∀ {b : Addr} {o : HO}, H b = some o → (∀ xs, o ≠ .lst xs) → upd H q (.lst ys) b = some o := fun {b o} hb n => (upd_ne (fun z => by
    subst z
    rw [h] at hb
    exact n _ (Option.some.inj hb).symm)).trans hb
  refine ⟨ps, k h1 (fun _ z => nomatch z), h2, fun pos cv hc => ?_⟩
  obtain ⟨c, e1, e2⟩ := h3 pos cv hc
  exact ⟨c, e1, k e2 (fun xs z => (show Plain (.lst xs) from trivial).code c _ z.symm)⟩
theorem exc_put {H : Hp} {a : Addr} {o : HO} : Exc [a] H (upd H a o) := fun b u n z => (upd_ne (by simpa using n)).trans z
/-- where a law stands: the pile, the tags, the eaters made, M the lists that change -/
structure Kv (T : List (Addr × Str)) (C : Addr) (H H' : Hp) (p a : Addr) (M : List Addr) (tags : Word) (es : List Addr) (Fs : List Form) : Prop where
  tb : Tabs T H'
  pl : PileAt H' p
  ba : Same (hideT [p] H) (hideT [p] H')
  wa : WordAt (hideT [p] H) a tags
  pM : p ∈ M
  ls : ∀ b ∈ M, ∃ xs, H' b = some (.lst xs)
  fr : ∀ b ∈ M, b = p ∨ hideT [p] H b = none
  ev : Paired (fun e F => EatAt C (hideT M H') e tags (least tags F)) es Fs
section
variable {T : List (Addr × Str)} {C : Addr} {H H1 H2 : Hp} {p a : Addr} {M : List Addr} {tags : Word} {es : List Addr} {Fs : List Form}
theorem Kv.tag (v : Kv T C H H1 p a M tags es Fs) : WordAt H1 a tags := Same.word hideT_sub (Same.word v.ba v.wa)
theorem Kv.free (v : Kv T C H H1 p a M tags es Fs) {q : Addr} (h : H1 q = none) : hideT [p] H q = none := by
  refine v.ba.free ?_
  unfold hideT
  split
  · rfl
  · rw [h]
theorem Kv.exT (v : Kv T C H H1 p a M tags es Fs) (e : QB.Ext T H1 H2) : Kv T C H H2 p a M tags es Fs := by
  have s := hideT_ext (M := M) e
  exact ⟨e.2 v.tb, pg_pile e v.pl, v.ba.trans (hideT_ext e), v.wa, v.pM, fun b hb => (v.ls b hb).imp fun _ h => e.lst h, v.fr, L2.Paired.mapP v.ev fun _ _ h => h.ext (T := T) (.of s)⟩
theorem Kv.same (v : Kv T C H H1 p a M tags es Fs) (s : Same H1 H2) : Kv T C H H2 p a M tags es Fs := v.exT (.of s)
theorem Kv.new (v : Kv T C H H1 p a M tags es Fs) {q : Addr} {o : HO} (h : H1 q = none) : Kv T C H (upd H1 q o) p a M tags es Fs := v.same (same_new h)
theorem Kv.draw (v : Kv T C H H1 p a M tags es Fs) (x : Exc [p] H1 H2) (pl : PileAt H2 p) : Kv T C H H2 p a M tags es Fs := by
  have s := hideT_exc (M := M) (fun n h => List.mem_singleton.mp h ▸ v.pM) x
  refine ⟨pg_tabs v.tb x v.pl, pl, v.ba.trans (hideT_exc (fun _ h => h) x), v.wa, v.pM, fun b hb => ?_, v.fr, L2.Paired.mapP v.ev fun _ _ h => h.ext (T := T) (.of s)⟩
  by_cases z : b = p
  · obtain ⟨_, _, _, h⟩ := pl
    exact ⟨_, z ▸ h⟩
  · exact (v.ls b hb).imp fun _ h => x _ _ (by simpa using z) h
theorem Kv.add {e dx x y : Addr} {L : List Tri} {F : Form} (v : Kv T C H H1 p a M tags es Fs) (g : QB.Ext T H1 H2) (n : EatN C H1 H2 e dx x y L tags (least tags F)) : Kv T C H H2 p a M tags (es ++ [e]) (Fs ++ [F]) := by
  have w := v.exT g
  exact ⟨w.tb, w.pl, w.ba, w.wa, w.pM, w.ls, w.fr, Paired.snoc w.ev (ea_hide v.ls n)⟩
theorem Kv.grow {d : Addr} (v : Kv T C H H1 p a M tags es Fs) (s : Same H1 H2) (n : H1 d = none) (l : ∃ xs, H2 d = some (.lst xs)) : Kv T C H H2 p a (d :: M) tags es Fs := by
  have w := v.same s
  have g := hideT_grow (M := M) n s
  refine ⟨w.tb, w.pl, w.ba, w.wa, List.mem_cons_of_mem _ w.pM, fun b hb => ?_, fun b hb => ?_, L2.Paired.mapP v.ev fun _ _ h => h.ext (T := T) (.of g)⟩
  · rcases List.mem_cons.mp hb with rfl | hb
    · exact l
    · exact w.ls b hb
  · rcases List.mem_cons.mp hb with rfl | hb
    · exact .inr (v.free n)
    · exact w.fr b hb
theorem Kv.list {d : Addr} {xs : List V} (v : Kv T C H H1 p a M tags es Fs) (n : H1 d = none) : Kv T C H (upd H1 d (.lst xs)) p a (d :: M) tags es Fs := v.grow (same_new n) n ⟨_, upd_same⟩
theorem Kv.put {d : Addr} {ys : List V} (v : Kv T C H H1 p a M tags es Fs) (hd : d ∈ M) (ne : d ≠ p) : Kv T C H (upd H1 d (.lst ys)) p a M tags es Fs := by
  obtain ⟨xs, hx⟩ := v.ls d hd
  have s := hideT_exc (M := M) (N := [d]) (fun n h => List.mem_singleton.mp h ▸ hd) (exc_put (H := H1) (o := .lst ys))
  have fd := (v.fr d hd).resolve_left ne
  refine ⟨tabs_put v.tb hx, v.pl.upd (Ne.symm ne), fun b o h => ?_, v.wa, v.pM, fun b hb => ?_, v.fr, L2.Paired.mapP v.ev fun _ _ h => h.ext (T := T) (.of s)⟩
  · have nb : b ≠ d := fun z => by
      rw [z, fd] at h
      cases h
    obtain ⟨h1, h2, h3⟩ := hideT_get (v.ba _ _ h)
    exact hideT_at h1 ((upd_ne nb).trans h2) h3
  · by_cases z : b = d
    · exact ⟨ys, by rw [z, upd_same]⟩
    · obtain ⟨zs, h⟩ := v.ls b hb
      exact ⟨zs, (upd_ne z).trans h⟩
theorem Kv.more {d : Addr} (v : Kv T C H H1 p a M tags [] []) (l : ∃ xs, H1 d = some (.lst xs)) (f : hideT [p] H d = none) : Kv T C H H1 p a (d :: M) tags [] [] := by
  refine ⟨v.tb, v.pl, v.ba, v.wa, List.mem_cons_of_mem _ v.pM, fun b hb => ?_, fun b hb => ?_, .nil⟩
  · rcases List.mem_cons.mp hb with rfl | hb
    · exact l
    · exact v.ls b hb
  · rcases List.mem_cons.mp hb with rfl | hb
    · exact .inr f
    · exact v.fr b hb
theorem Kv.weak (v : Kv T C H H1 p a M tags [] []) : Kv T C H H1 p a [p] tags [] [] := by
  refine ⟨v.tb, v.pl, v.ba, v.wa, List.mem_singleton_self _, fun b hb => ?_, fun b hb => .inl (List.mem_singleton.mp hb), .nil⟩
  obtain ⟨_, _, _, h⟩ := v.pl
  exact ⟨_, List.mem_singleton.mp hb ▸ h⟩
theorem hideT_mono {M N : List Addr} {H : Hp} (h : ∀ b ∈ N, b ∈ M) : Same (hideT M H) (hideT N H) := fun b o z => by
  obtain ⟨h1, h2, h3⟩ := hideT_get z
  exact hideT_at (fun y => h1 (h b y)) h2 h3
theorem Kv.rebase (v : Kv T C H H1 p a M tags es Fs) : Kv T C H1 H1 p a [p] tags es Fs := by
  refine ⟨v.tb, v.pl, Same.refl _, Same.word v.ba v.wa, List.mem_singleton_self _, fun b hb => ?_, fun b hb => .inl (List.mem_singleton.mp hb), L2.Paired.mapP v.ev fun _ _ h => h.ext (T := T) (.of (hideT_mono fun b hb => List.mem_singleton.mp hb ▸ v.pM))⟩
  obtain ⟨_, _, _, h⟩ := v.pl
  exact ⟨_, List.mem_singleton.mp hb ▸ h⟩
theorem Kv.hid (v : Kv T C H H1 p a M tags es Fs) {z : Addr} {w : Word} (h : WordAt H1 z w) : WordAt (hideT [p] H1) z w := hideT_at (by simpa using v.pl.word h) h
theorem Kv.at_ {e : Addr} {F : Form} {j : Nat} (v : Kv T C H H1 p a M tags es Fs) (h : es[j]? = some e) (hF : Fs[j]? = some F) : EatAt C H1 e tags (least tags F) := by
  obtain ⟨F', h1, h2⟩ := paired_get' v.ev h
  rw [hF] at h1
  cases h1
  exact h2.ext (T := T) (.of hideT_sub)
theorem Kv.start {H : Hp} (tb : Tabs T H) (pl : PileAt H p) (wa : WordAt H a tags) : Kv T C H H p a [p] tags [] [] := by
  refine ⟨tb, pl, Same.refl _, hideT_at (fun z => pl.word wa (List.mem_singleton.mp z)) wa, List.mem_singleton_self _, fun b hb => ?_, fun b hb => .inl (List.mem_singleton.mp hb), .nil⟩
  obtain ⟨_, _, _, h⟩ := pl
  exact ⟨_, List.mem_singleton.mp hb ▸ h⟩
end
end Law
end

section
set_option Elab.async false
set_option linter.all false
set_option maxRecDepth 100000
set_option maxHeartbeats 4000000
namespace Law
open PySem PySem.Spec PyProof.Rows L2 LamX QB QM
theorem last_at {tags : Word} (h : 1 ≤ tags.length) : ∃ t ∈ tags, atI (vS tags) (-1) = some (.str t) := by
  have ne : tags ≠ [] := fun z => by rw [z] at h; cases h
  refine ⟨tags.getLast ne, List.getLast_mem ne, ?_⟩
  have e : vS tags = vS tags.dropLast ++ [V.str (tags.getLast ne)] := by
    rw [show [V.str (tags.getLast ne)] = vS [tags.getLast ne] from rfl, vS_append, List.dropLast_concat_getLast]
  rw [e]
  exact atI_last
/-- the lists handed in -/
structure Ku (H : Hp) (n q s r : Addr) (tags wd : Word) (ps : List (Str × Str)) : Prop where
  n : WordAt H n tags
  q : WordAt H q wd
  s : WordAt H s tags
  r : PairsAt H r ps
theorem Ku.exT {T : List (Addr × Str)} {H H' : Hp} {n q s r : Addr} {tags wd : Word} {ps : List (Str × Str)} (u : Ku H n q s r tags wd ps) (e : QB.Ext T H H') : Ku H' n q s r tags wd ps := by
  obtain ⟨ts, h1, h2⟩ := u.r
  exact ⟨e.word u.n, e.word u.q, e.word u.s, ts, e.lst h1, L2.Paired.mapP h2 fun _ _ h => e.tup h⟩
theorem Ku.same {H H' : Hp} {n q s r : Addr} {tags wd : Word} {ps : List (Str × Str)} (u : Ku H n q s r tags wd ps) (e : Same H H') : Ku H' n q s r tags wd ps := u.exT (T := []) (.of e)
theorem Ku.draw {H H' : Hp} {p n q s r : Addr} {tags wd : Word} {ps : List (Str × Str)} (u : Ku H n q s r tags wd ps) (x : Exc [p] H H') (pl : PileAt H p) (rp : r ≠ p) : Ku H' n q s r tags wd ps := by
  obtain ⟨ts, h1, h2⟩ := u.r
  refine ⟨pg_word x pl u.n, pg_word x pl u.q, pg_word x pl u.s, ts, x _ _ (by simpa using rp) h1, L2.Paired.mapP h2 fun c _ h => x _ _ (fun z => ?_) h⟩
  obtain ⟨_, _, _, y⟩ := pl
  rw [List.mem_singleton.mp z, y] at h
  cases h
theorem Ku.out {H : Hp} {n q s r l : Addr} {tags wd : Word} {ps : List (Str × Str)} (u : Ku H n q s r tags wd ps) (h : H l = none) : n ≠ l ∧ q ≠ l ∧ s ≠ l ∧ r ≠ l := by
  obtain ⟨ts, h1, _⟩ := u.r
  exact ⟨ne_of_none u.n h, ne_of_none u.q h, ne_of_none u.s h, ne_of_none h1 h⟩
theorem Ku.put {H : Hp} {n q s r l : Addr} {tags wd : Word} {ps : List (Str × Str)} {xs ys : List V} (u : Ku H n q s r tags wd ps) (d : n ≠ l ∧ q ≠ l ∧ s ≠ l ∧ r ≠ l) (kl : H l = some (.lst xs)) : Ku (upd H l (.lst ys)) n q s r tags wd ps := by
  obtain ⟨ts, h1, h2⟩ := u.r
  exact ⟨(upd_ne d.1).trans u.n, (upd_ne d.2.1).trans u.q, (upd_ne d.2.2.1).trans u.s, ts, (upd_ne d.2.2.2).trans h1, L2.Paired.mapP h2 fun c _ h => (upd_ne (ne_of h kl (fun z => nomatch z))).trans h⟩
theorem PairsAt.copy {H : Hp} {r c : Addr} {ps : List (Str × Str)} (h : PairsAt H r ps) (hc : H c = none) : ∃ xs, H r = some (.lst xs) ∧ PairsAt (upd H c (.lst xs)) c ps := by
  obtain ⟨ts, h1, h2⟩ := h
  exact ⟨_, h1, ts, upd_same, L2.Paired.mapP h2 fun _ _ h => same_new hc _ _ h⟩
/-- the forms of the six makers -/
def forms6 (tags wd : Word) (t : Str) (ps : List (Str × Str)) (k : Nat) : List Form := [putF tags [], putF tags wd, stripForm tags tags none, onceForm tags t, exForm tags ps, pressForm tags t k]
theorem forms6_mk {tags wd : Word} {t : Str} {ps : List (Str × Str)} {k : Nat} (to : TagsOk tags) (hw : ∀ t ∈ wd, t ∈ tags) (hl : wd.length ≤ 8) (ht : t ∈ tags) (nd : (ps.map (·.1)).Nodup) (hp : ∀ p ∈ ps, p.1 ∈ tags ∧ p.2 ∈ tags) (pl : ps.length ≤ 6) (hk : k ≤ 20) :
    ∀ F ∈ forms6 tags wd t ps k, ∃ f, Mk tags F f := fun F hF => by
  unfold forms6 at hF
  simp only [List.mem_cons, List.not_mem_nil, or_false] at hF
  rcases hF with rfl | rfl | rfl | rfl | rfl | rfl
  · exact ⟨_, mk_keep to⟩
  · exact ⟨_, mk_put to hw hl⟩
  · exact ⟨_, mk_strip to (fun _ z => nomatch z)⟩
  · exact ⟨_, mk_once to ht⟩
  · exact ⟨_, mk_ex to nd hp pl⟩
  · exact ⟨_, mk_press to ht hk⟩
section
variable {P : Program} {w : World} {K : PySem.W.Frag} {mg : Str → Option Value} {base : Heap}
def spKept (T : List (Addr × Str)) : Sp := fun vs H Q _ => ∃ (p a : Addr) (tags : Word), vs = [.ref p, .ref a] ∧ PileAt H p ∧ WordAt H a tags ∧ TagsOk tags ∧ tags.length ≤ 4 ∧ Tabs T H ∧
  ∀ H', Same (hideT [p] H) (hideT [p] H') → PileAt H' p → Tabs T H' → Q (.bl true) H'
theorem ok__law_kept_right (X : TX K mg) (TB : LamX.TabB base mg X.lam_c X.lam_P) : FnOk P w K mg base CX0 9 X.d__law_kept_right.a X.d__law_kept_right.fd ["pile", "tags"] (spKept (Tof X)) := by
  have nd := sc__law_kept_right.nd
  refine X.d__law_kept_right.F.ok sc__law_kept_right (fun vs H Q E h => ?_) (fun cdv A outer s0 H vs Q E hr h => ?_)
  · obtain ⟨p, a, tags, rfl, _⟩ := h
    rfl
  · obtain ⟨p, a, tags, rfl, hp, ha, to, tl4, tb, k⟩ := h
    refine ⟨_, (pss_cons (ps_par3 (i := 2) (j := 3) (l := 4) (by rfl) nd rfl rfl rfl (by decide) (by decide) (by decide) rfl rfl rfl (pa_cons (pe_callTy (QB.call_listK K) (by rfl) X.n_list QB.bo_list (pa_cons (pv 1) pa_nil)) (pa_cons (pe_call (ok__law_subject X) (hr.mono (by decide)) rfl X.d__law_subject.mg X.d__law_subject.F.kp X.d__law_subject.b .nil pass0 (pa_cons (pv 0) (pa_cons (pv 1) (pa_cons pe_int pa_nil)))) (pa_cons (pe_callTy (QB.call_listK K) (by rfl) X.n_list QB.bo_list (pa_cons (pv 1) pa_nil)) pa_nil))) (by rfl)) (pss_cons (ps_setLc (i := 6) (own := [("tag", 5)]) (g := gName 5) (tt := tYes) rfl nd rfl rfl (sw_true rfl rfl rfl (by decide +kernel)) (QB.pi_listK K (pv 1)) (blkOk_by (N := ["pile", "tags", "names", "word", "some", "tag", "pairs", "often", "made_v", "due", "lot", "eater", "other"]) (sc := defScope s__law_kept_right) (by decide +kernel)) (fun _ _ _ _ _ => pg_name (i := 5) nd rfl (Or.inl rfl)) (fun _ _ _ _ _ => pts_nil) (fun _ _ _ _ _ => (pe_tup (pa_cons (pv 5) (pa_cons (pe_ix (QB.ix_listK K) (pv 1) pe_int (fun _ _ => rfl)) pa_nil))))) (pss_cons (ps_par (i := 5) (j := 7) (by rfl) nd rfl rfl (by decide) rfl rfl (pa_cons (pe_ix (QB.ix_listK K) (pv 1) (pe_un un_neg pe_int) (fun _ _ => rfl)) (pa_cons (pe_call (ok__law_take X) (hr.mono (by decide)) rfl X.d__law_take.mg X.d__law_take.F.kp X.d__law_take.b .nil pass0 (pa_cons (pv 0) (pa_cons pe_int pa_nil))) pa_nil)) (by rfl)) (pss_cons (ps_set (i := 8) nd rfl (Or.inl rfl) (pe_lst (pa_cons (pe_call (ok_keep X TB) (hr.mono (by decide)) rfl X.d_keep.mg X.d_keep.F.kp X.d_keep.b .nil pass0 (pa_cons (pv 2) pa_nil)) (pa_cons (pe_call (ok_put X TB) (hr.mono (by decide)) rfl X.d_put.mg X.d_put.F.kp X.d_put.b .nil pass0 (pa_cons (pv 2) (pa_cons (pv 3) pa_nil))) (pa_cons (pe_call (ok_strip X TB) (hr.mono (by decide)) rfl X.d_strip.mg X.d_strip.F.kp X.d_strip.b .nil pass0 (pa_cons (pv 2) (pa_cons (pv 4) (pa_cons pe_non pa_nil)))) (pa_cons (pe_call (ok_once X TB) (hr.mono (by decide)) rfl X.d_once.mg X.d_once.F.kp X.d_once.b .nil pass0 (pa_cons (pv 2) (pa_cons (pv 5) pa_nil))) (pa_cons (pe_call (ok_exchange X TB) (hr.mono (by decide)) rfl X.d_exchange.mg X.d_exchange.F.kp X.d_exchange.b .nil pass0 (pa_cons (pv 2) (pa_cons (pv 6) pa_nil))) pa_nil))))))) (pss_cons (ps_expr (QB.pe_bmK K PySem.F.plainAttrs_list PySem.F.slot_list_append PySem.F.type_list_append mt_append (pv 8) (pa_cons (pe_call (ok_press X TB) (hr.mono (by decide)) rfl X.d_press.mg X.d_press.F.kp X.d_press.b .nil pass0 (pa_cons (pv 2) (pa_cons (pv 5) (pa_cons (pv 7) pa_nil)))) pa_nil))) (pss_cons (ps_set (i := 9) nd rfl (Or.inl rfl) (pe_lst (pa_cons (pe_call (ok_keep X TB) (hr.mono (by decide)) rfl X.d_keep.mg X.d_keep.F.kp X.d_keep.b .nil pass0 (pa_cons (pe_callTy (QB.call_listK K) (by rfl) X.n_list QB.bo_list (pa_cons (pv 1) pa_nil)) pa_nil)) (pa_cons (pe_call (ok_put X TB) (hr.mono (by decide)) rfl X.d_put.mg X.d_put.F.kp X.d_put.b .nil pass0 (pa_cons (pe_callTy (QB.call_listK K) (by rfl) X.n_list QB.bo_list (pa_cons (pv 1) pa_nil)) (pa_cons (pe_callTy (QB.call_listK K) (by rfl) X.n_list QB.bo_list (pa_cons (pv 3) pa_nil)) pa_nil))) (pa_cons (pe_call (ok_strip X TB) (hr.mono (by decide)) rfl X.d_strip.mg X.d_strip.F.kp X.d_strip.b .nil pass0 (pa_cons (pe_callTy (QB.call_listK K) (by rfl) X.n_list QB.bo_list (pa_cons (pv 1) pa_nil)) (pa_cons (pe_callTy (QB.call_listK K) (by rfl) X.n_list QB.bo_list (pa_cons (pv 1) pa_nil)) (pa_cons pe_non pa_nil)))) (pa_cons (pe_call (ok_once X TB) (hr.mono (by decide)) rfl X.d_once.mg X.d_once.F.kp X.d_once.b .nil pass0 (pa_cons (pe_callTy (QB.call_listK K) (by rfl) X.n_list QB.bo_list (pa_cons (pv 1) pa_nil)) (pa_cons (pv 5) pa_nil))) pa_nil)))))) (pss_cons (ps_set (i := 9) nd rfl (Or.inl rfl) (pe_op op_cat (pv 9) (pe_lst (pa_cons (pe_call (ok_exchange X TB) (hr.mono (by decide)) rfl X.d_exchange.mg X.d_exchange.F.kp X.d_exchange.b .nil pass0 (pa_cons (pe_callTy (QB.call_listK K) (by rfl) X.n_list QB.bo_list (pa_cons (pv 1) pa_nil)) (pa_cons (pe_callTy (QB.call_listK K) (by rfl) X.n_list QB.bo_list (pa_cons (pv 6) pa_nil)) pa_nil))) (pa_cons (pe_call (ok_press X TB) (hr.mono (by decide)) rfl X.d_press.mg X.d_press.F.kp X.d_press.b .nil pass0 (pa_cons (pe_callTy (QB.call_listK K) (by rfl) X.n_list QB.bo_list (pa_cons (pv 1) pa_nil)) (pa_cons (pv 5) (pa_cons (pv 7) pa_nil)))) pa_nil))))) (pss_cons (ps_for PassesOwn.never rfl (QB.pi_listK K (pe_lst (pa_cons (pv 2) (pa_cons (pv 3) (pa_cons (pv 4) (pa_cons (pv 6) pa_nil)))))) (pg_name (i := 10) nd rfl (Or.inl rfl)) (pss_one (ps_expr (QB.pe_bm0K K PySem.F.plainAttrs_list PySem.F.slot_list_clear PySem.F.type_list_clear mt_clear (pv 10))))) (pss_cons (ps_for PassesOwn.never rfl (QB.pi_zipK K (by rfl) X.n_zip (pa_cons (pv 8) (pa_cons (pv 9) pa_nil))) (pg_tup (by rfl) (pgs_cons (pg_name (i := 11) nd rfl (Or.inl rfl)) (pgs_cons (pg_name (i := 12) nd rfl (Or.inl rfl)) (pgs_nil)))) (pss_cons (ps_if (PW.pt (pw_or (pt_cmpR (QB.op_neDK K hr.units) (pe_meth0 (pv 11) X.cl_Eater X.h_Eater_tags (ok_Eater_tags X) (hr.mono (by decide)) X.d_Eater_tags.b .nil pass0) (pv 1) (nomark _)) (pw_or (pt_not (pt_cmpR (QO.op_eqO (ok_Eater___eq__ X) X.h_Eater___eq__ (hr.mono (by decide)) X.d_Eater___eq__.b pass0) (pv 11) (pv 12) (nomark _))) (pw_or1 (pt_not (pt_cmpR (QO.op_eqO (ok_Eater___eq__ X) X.h_Eater___eq__ (hr.mono (by decide)) X.d_Eater___eq__.b pass0) (pe_meth (pv 11) X.cl_Eater X.h_Eater_then (ok_Eater_then X TB) (hr.mono (by decide)) X.d_Eater_then.b .nil pass0 (pa_cons (pe_call (ok_keep X TB) (hr.mono (by decide)) rfl X.d_keep.mg X.d_keep.F.kp X.d_keep.b .nil pass0 (pa_cons (pv 1) pa_nil)) pa_nil)) (pv 12) (nomark _))))))) (pss_one (ps_ret pe_bl)) pss_nil) (pss_one (ps_if (pt_cmpR (QB.op_neDK K hr.units) (pe_meth (pv 11) X.cl_Eater X.h_Eater_on (ok_Eater_on X) (hr.mono (by decide)) X.d_Eater_on.b .nil pass0 (pa_cons (pe_op op_rep (pv 1) pe_int) pa_nil)) (pe_meth (pv 12) X.cl_Eater X.h_Eater_on (ok_Eater_on X) (hr.mono (by decide)) X.d_Eater_on.b .nil pass0 (pa_cons (pe_op op_rep (pv 1) pe_int) pa_nil)) (nomark _)) (pss_one (ps_ret pe_bl)) pss_nil)))) (pss_one (ps_ret pe_bl))))))))))), ?_⟩
    try dsimp only [Cx.nox, Cx.wish, cxOf]
    have tpos := to.pos
    have v : Kv (Tof X) X.c_Eater H H p a [p] tags [] [] := Kv.start tb hp ha
    -- names, word, some
    refine ⟨_, rfl, a, _, rfl, .inl (SqL.of ha), fun n hn => ?_⟩
    have np : n ≠ p := (hp.ne hn).symm
    have fn := v.free hn
    have un : WordAt (upd H n (.lst (vS tags))) n tags := upd_same
    have v := v.new (o := .lst (vS tags)) hn
    generalize upd H n (.lst (vS tags)) = H1 at un v ⊢
    refine ⟨_, rfl, _, rfl, p, a, tags, 8, rfl, by decide, v.pl, v.tag, to, fun wd q H2 hw hwl x2 p2 hq uq => ?_⟩
    have qp : q ≠ p := (v.pl.ne hq).symm
    have fq := v.free hq
    have un := pg_word x2 v.pl un
    have v := v.draw x2 p2
    refine ⟨_, rfl, a, _, rfl, .inl (SqL.of v.tag), fun s hs => ?_⟩
    have sp : s ≠ p := (v.pl.ne hs).symm
    have fs := v.free hs
    have sm := same_new (o := .lst (vS tags)) hs
    have un := Same.word sm un
    have uq := Same.word sm uq
    have us : WordAt (upd H2 s (.lst (vS tags))) s tags := upd_same
    have v := v.same sm
    generalize upd H2 s (.lst (vS tags)) = H3 at un uq us v ⊢
    clear sm x2 p2 hq hs hn
    refine ⟨_, _, _, rfl, ?_⟩
    -- pairs
    obtain ⟨t0, ht0, e0⟩ : ∃ t0, t0 ∈ tags ∧ tags[0]? = some t0 := ⟨tags[0]'tpos, List.getElem_mem tpos, List.getElem?_eq_getElem tpos⟩
    refine ⟨_, rfl, _, rfl, ⟨_, SqL.of v.tag⟩, fun r hr => ?_⟩
    have rp : r ≠ p := (v.pl.ne hr).symm
    have fr := v.free hr
    have sm := same_new (o := .lst []) hr
    have dn : n ≠ r := ne_of_none un hr
    have dq : q ≠ r := ne_of_none uq hr
    have ds : s ≠ r := ne_of_none us hr
    have ar : a ≠ r := ne_of_none v.tag hr
    refine lc_it (walk_listW (K := K) (a := a) (w := tags)) (fun i H' => Kv (Tof X) X.c_Eater H H' p a [r, p] tags [] [] ∧ WordAt H' n tags ∧ WordAt H' q wd ∧ WordAt H' s tags ∧ ∃ ts : List Addr, H' r = some (.lst (ts.map V.ref)) ∧ Paired (fun t p => H' t = some (.tup [.str p.1, .str p.2])) ts ((tags.take i).map fun t => (t, t0)))
      ⟨v.list hr, Same.word sm un, Same.word sm uq, Same.word sm us, [], upd_same, .nil⟩ (fun i H' _ h => h.1.tag) ?_ ?_
    · rintro i x H4 H5 hi ⟨v4, n4, q4, s4, ts, r4, t4⟩ ⟨y, hy, rfl, rfl⟩
      refine ⟨rfl, _, rfl, _, rfl, _, _, _, _, rfl, rfl, SqL.of v4.tag, atI_nat (j := 0) (vS_get e0), ?_⟩
      refine ⟨by show 2 ≤ sizeLine; decide, fun tp htp => ?_⟩
      have sm := same_new (o := .tup [V.str y, .str t0]) htp
      have k4 : upd H5 tp (.tup [V.str y, .str t0]) tp = some (.tup [V.str y, .str t0]) := upd_same
      have v4 := v4.same sm
      have n4 := Same.word sm n4
      have q4 := Same.word sm q4
      have s4 := Same.word sm s4
      have r4 := sm _ _ r4
      have t4 := L2.Paired.mapP t4 fun _ _ h => sm _ _ h
      generalize upd H5 tp (.tup [V.str y, .str t0]) = H6 at sm k4 v4 n4 q4 s4 r4 t4 ⊢
      refine ⟨_, r4, by rw [List.length_map, Paired.length t4, List.length_map, List.length_take]; exact sz_lt (by omega), v4.put List.mem_cons_self rp, (upd_ne dn).trans n4, (upd_ne dq).trans q4, (upd_ne ds).trans s4, ts ++ [tp], ?_, ?_⟩
      · rw [upd_same, List.map_append]
        rfl
      · rw [List.take_add_one, hy, List.map_append]
        refine Paired.snoc (L2.Paired.mapP t4 fun c _ h => (upd_ne (ne_of h r4 (fun z => nomatch z))).trans h) ?_
        exact (upd_ne (ne_of k4 r4 (fun z => nomatch z))).trans k4
    rintro H4 ⟨v, un, uq, us, ts, r4, t4⟩
    rw [List.take_length] at t4
    clear sm hr
    have u : Ku H4 n q s r tags wd (tags.map fun t => (t, t0)) := ⟨un, uq, us, ts, r4, t4⟩
    clear un uq us r4 t4 ts
    have v := ((v.more (d := n) ⟨_, u.n⟩ fn).more (d := q) ⟨_, u.q⟩ fq).more (d := s) ⟨_, u.s⟩ fs
    have ndp : ((tags.map fun t => (t, t0)).map (·.1)).Nodup := by
      rw [List.map_map]
      show (tags.map fun t => t).Nodup
      rw [List.map_id']
      exact to.nd
    have inp : ∀ z ∈ tags.map (fun t => (t, t0)), z.1 ∈ tags ∧ z.2 ∈ tags := fun z hz => by
      obtain ⟨t, ht, rfl⟩ := List.mem_map.mp hz
      exact ⟨ht, ht0⟩
    have pl6 : (tags.map fun t => (t, t0)).length ≤ 6 := by rw [List.length_map]; omega
    generalize tags.map (fun t => (t, t0)) = ps at u ndp inp pl6
    -- tag, often
    obtain ⟨tg, htg, etg⟩ := last_at tpos
    refine ⟨_, rfl, _, rfl, a, _, _, _, rfl, rfl, SqL.of v.tag, etg, ?_⟩
    refine ⟨_, rfl, p, 4, rfl, by decide, by decide, v.pl, fun of H5 hof x5 p5 => ?_⟩
    have u := u.draw x5 v.pl rp
    have v := v.draw x5 p5
    clear x5 p5
    refine ⟨_, _, rfl, ?_⟩
    -- made
    refine ⟨_, rfl, n, tags, rfl, u.n, to, v.tb, fun e1 _ _ _ _ H6 g _ m => ?_⟩
    have v := v.add (F := putF tags []) g m
    have u := u.exT g
    clear g m
    refine ⟨_, rfl, _, rfl, n, q, tags, wd, rfl, u.n, u.q, to, hw, hwl, v.tb, fun e2 _ _ _ _ H7 g _ m => ?_⟩
    have v := v.add (F := putF tags wd) g m
    have u := u.exT g
    clear g m
    refine ⟨_, rfl, _, rfl, n, s, tags, tags, none, rfl, u.n, u.s, to, to.nd, (fun _ h => h), (fun _ z => nomatch z), v.tb, fun e3 _ _ _ _ H8 g _ m => ?_⟩
    have v := v.add (F := stripForm tags tags none) g m
    have u := u.exT g
    clear g m
    refine ⟨_, rfl, _, rfl, n, tags, tg, rfl, u.n, to, htg, v.tb, fun e4 _ _ _ _ H9 g _ m => ?_⟩
    have v := v.add (F := onceForm tags tg) g m
    have u := u.exT g
    clear g m
    refine ⟨_, rfl, _, rfl, n, r, tags, ps, rfl, u.n, u.r, to, ndp, inp, pl6, v.tb, fun e5 _ _ _ _ H10 g _ m => ?_⟩
    have v := v.add (F := exForm tags ps) g m
    have u := u.exT g
    clear g m
    refine ⟨by show 5 ≤ sizeLine; decide, fun l hl => ?_⟩
    have lp : l ≠ p := (v.pl.ne hl).symm
    have ul := u.out hl
    have u := u.same (same_new (o := .lst [V.ref e1, .ref e2, .ref e3, .ref e4, .ref e5]) hl)
    have v := v.list (xs := [V.ref e1, .ref e2, .ref e3, .ref e4, .ref e5]) hl
    have kl : upd H10 l (.lst [V.ref e1, .ref e2, .ref e3, .ref e4, .ref e5]) l = some (.lst [V.ref e1, .ref e2, .ref e3, .ref e4, .ref e5]) := upd_same
    generalize upd H10 l (.lst [V.ref e1, .ref e2, .ref e3, .ref e4, .ref e5]) = H11 at u v kl ⊢
    clear hl
    refine ⟨_, rfl, .inl ⟨rfl, _, SqL.of kl⟩, ?_⟩
    refine ⟨_, rfl, _, rfl, _, rfl, n, tags, tg, of, rfl, u.n, to, htg, (by omega), v.tb, fun e6 _ _ _ _ H12 g _ m => ?_⟩
    have v := v.add (F := pressForm tags tg of) g m
    have u := u.exT g
    have kl := g.lst kl
    clear g m
    refine ⟨l, _, _, rfl, rfl, kl, by show 5 < sizeLine; decide, ?_⟩
    have u := u.put (ys := [V.ref e1, .ref e2, .ref e3, .ref e4, .ref e5, .ref e6]) ul kl
    have v := v.put (ys := [V.ref e1, .ref e2, .ref e3, .ref e4, .ref e5, .ref e6]) List.mem_cons_self lp
    have kl : upd H12 l (.lst [V.ref e1, .ref e2, .ref e3, .ref e4, .ref e5, .ref e6]) l = some (.lst [V.ref e1, .ref e2, .ref e3, .ref e4, .ref e5, .ref e6]) := upd_same
    show tSeq _ _ _ _ (upd H12 l (.lst [V.ref e1, .ref e2, .ref e3, .ref e4, .ref e5, .ref e6]))
    generalize upd H12 l (.lst [V.ref e1, .ref e2, .ref e3, .ref e4, .ref e5, .ref e6]) = H13 at u v kl ⊢
    -- due
    refine ⟨_, rfl, a, _, rfl, .inl (SqL.of v.tag), fun c1 hc => ?_⟩
    have sm := same_new (o := .lst (vS tags)) hc
    have u := u.same sm
    have v := v.same sm
    have kl := sm _ _ kl
    have w1 : WordAt (upd H13 c1 (.lst (vS tags))) c1 tags := upd_same
    generalize upd H13 c1 (.lst (vS tags)) = H14 at u v kl w1 ⊢
    clear sm hc
    refine ⟨c1, tags, rfl, w1, to, v.tb, fun f1 _ _ _ _ H15 g _ m => ?_⟩
    have v := v.add (F := putF tags []) g m
    have u := u.exT g
    have kl := g.lst kl
    clear g m w1
    refine ⟨_, rfl, a, _, rfl, .inl (SqL.of v.tag), fun c2 hc => ?_⟩
    have sm := same_new (o := .lst (vS tags)) hc
    have u := u.same sm
    have v := v.same sm
    have kl := sm _ _ kl
    have w1 : WordAt (upd H15 c2 (.lst (vS tags))) c2 tags := upd_same
    generalize upd H15 c2 (.lst (vS tags)) = H16 at u v kl w1 ⊢
    clear sm hc
    refine ⟨_, rfl, q, _, rfl, .inl (SqL.of u.q), fun c3 hc => ?_⟩
    have sm := same_new (o := .lst (vS wd)) hc
    have u := u.same sm
    have v := v.same sm
    have kl := sm _ _ kl
    have w1 := Same.word sm w1
    have w2 : WordAt (upd H16 c3 (.lst (vS wd))) c3 wd := upd_same
    generalize upd H16 c3 (.lst (vS wd)) = H17 at u v kl w1 w2 ⊢
    clear sm hc
    refine ⟨c2, c3, tags, wd, rfl, w1, w2, to, hw, hwl, v.tb, fun f2 _ _ _ _ H18 g _ m => ?_⟩
    have v := v.add (F := putF tags wd) g m
    have u := u.exT g
    have kl := g.lst kl
    clear g m w1 w2
    refine ⟨_, rfl, a, _, rfl, .inl (SqL.of v.tag), fun c4 hc => ?_⟩
    have sm := same_new (o := .lst (vS tags)) hc
    have u := u.same sm
    have v := v.same sm
    have kl := sm _ _ kl
    have w1 : WordAt (upd H18 c4 (.lst (vS tags))) c4 tags := upd_same
    generalize upd H18 c4 (.lst (vS tags)) = H19 at u v kl w1 ⊢
    clear sm hc
    refine ⟨_, rfl, a, _, rfl, .inl (SqL.of v.tag), fun c5 hc => ?_⟩
    have sm := same_new (o := .lst (vS tags)) hc
    have u := u.same sm
    have v := v.same sm
    have kl := sm _ _ kl
    have w1 := Same.word sm w1
    have w2 : WordAt (upd H19 c5 (.lst (vS tags))) c5 tags := upd_same
    generalize upd H19 c5 (.lst (vS tags)) = H20 at u v kl w1 w2 ⊢
    clear sm hc
    refine ⟨c4, c5, tags, tags, none, rfl, w1, w2, to, to.nd, (fun _ h => h), (fun _ z => nomatch z), v.tb, fun f3 _ _ _ _ H21 g _ m => ?_⟩
    have v := v.add (F := stripForm tags tags none) g m
    have u := u.exT g
    have kl := g.lst kl
    clear g m w1 w2
    refine ⟨_, rfl, a, _, rfl, .inl (SqL.of v.tag), fun c6 hc => ?_⟩
    have sm := same_new (o := .lst (vS tags)) hc
    have u := u.same sm
    have v := v.same sm
    have kl := sm _ _ kl
    have w1 : WordAt (upd H21 c6 (.lst (vS tags))) c6 tags := upd_same
    generalize upd H21 c6 (.lst (vS tags)) = H22 at u v kl w1 ⊢
    clear sm hc
    refine ⟨_, rfl, c6, tags, tg, rfl, w1, to, htg, v.tb, fun f4 _ _ _ _ H23 g _ m => ?_⟩
    have v := v.add (F := onceForm tags tg) g m
    have u := u.exT g
    have kl := g.lst kl
    clear g m w1
    refine ⟨by show 4 ≤ sizeLine; decide, fun d hd => ?_⟩
    have sm := same_new (o := .lst [V.ref f1, .ref f2, .ref f3, .ref f4]) hd
    have u := u.same sm
    have v := v.same sm
    have kl := sm _ _ kl
    have kd : upd H23 d (.lst [V.ref f1, .ref f2, .ref f3, .ref f4]) d = some (.lst [V.ref f1, .ref f2, .ref f3, .ref f4]) := upd_same
    generalize upd H23 d (.lst [V.ref f1, .ref f2, .ref f3, .ref f4]) = H24 at u v kl kd ⊢
    clear sm hd
    refine ⟨_, rfl, ?_⟩
    refine ⟨_, rfl, a, _, rfl, .inl (SqL.of v.tag), fun c7 hc => ?_⟩
    have sm := same_new (o := .lst (vS tags)) hc
    have u := u.same sm
    have v := v.same sm
    have kl := sm _ _ kl
    have kd := sm _ _ kd
    have w1 : WordAt (upd H24 c7 (.lst (vS tags))) c7 tags := upd_same
    generalize upd H24 c7 (.lst (vS tags)) = H25 at u v kl w1 kd ⊢
    clear sm hc
    obtain ⟨rs, hrs, hps⟩ := u.r
    refine ⟨_, rfl, r, _, rfl, .inl (SqL.of hrs), fun c8 hc => ?_⟩
    have sm := same_new (o := .lst (rs.map V.ref)) hc
    have u := u.same sm
    have v := v.same sm
    have kl := sm _ _ kl
    have kd := sm _ _ kd
    have w1 := Same.word sm w1
    have w2 : PairsAt (upd H25 c8 (.lst (rs.map V.ref))) c8 ps := ⟨rs, upd_same, L2.Paired.mapP hps fun _ _ h => sm _ _ h⟩
    generalize upd H25 c8 (.lst (rs.map V.ref)) = H26 at u v kl kd w1 w2 ⊢
    clear sm hc hrs hps
    refine ⟨c7, c8, tags, ps, rfl, w1, w2, to, ndp, inp, pl6, v.tb, fun f5 _ _ _ _ H27 g _ m => ?_⟩
    have v := v.add (F := exForm tags ps) g m
    have u := u.exT g
    have kl := g.lst kl
    have kd := g.lst kd
    clear g m w1 w2
    refine ⟨_, rfl, a, _, rfl, .inl (SqL.of v.tag), fun c9 hc => ?_⟩
    have sm := same_new (o := .lst (vS tags)) hc
    have u := u.same sm
    have v := v.same sm
    have kl := sm _ _ kl
    have kd := sm _ _ kd
    have w1 : WordAt (upd H27 c9 (.lst (vS tags))) c9 tags := upd_same
    generalize upd H27 c9 (.lst (vS tags)) = H28 at u v kl w1 kd ⊢
    clear sm hc
    refine ⟨_, rfl, _, rfl, c9, tags, tg, of, rfl, w1, to, htg, (by omega), v.tb, fun f6 _ _ _ _ H29 g _ m => ?_⟩
    have v := v.add (F := pressForm tags tg of) g m
    have u := u.exT g
    have kl := g.lst kl
    have kd := g.lst kd
    clear g m w1
    refine ⟨by show 2 ≤ sizeLine; decide, fun d2 hd => ?_⟩
    have sm := same_new (o := .lst [V.ref f5, .ref f6]) hd
    have u := u.same sm
    have v := v.same sm
    have kl := sm _ _ kl
    have kd := sm _ _ kd
    have kd2 : upd H29 d2 (.lst [V.ref f5, .ref f6]) d2 = some (.lst [V.ref f5, .ref f6]) := upd_same
    generalize upd H29 d2 (.lst [V.ref f5, .ref f6]) = H30 at u v kl kd kd2 ⊢
    clear sm hd
    refine ⟨d, d2, _, _, rfl, rfl, kd, kd2, by show 6 ≤ sizeLine; decide, fun z hz => ?_⟩
    have uz := u.out hz
    have sm := same_new (o := .lst [V.ref f1, .ref f2, .ref f3, .ref f4, .ref f5, .ref f6]) hz
    have u := u.same sm
    have v := v.same sm
    have kl := sm _ _ kl
    have kz : upd H30 z (.lst [V.ref f1, .ref f2, .ref f3, .ref f4, .ref f5, .ref f6]) z = some (.lst [V.ref f1, .ref f2, .ref f3, .ref f4, .ref f5, .ref f6]) := upd_same
    show tSeq _ _ _ _ (upd H30 z (.lst [V.ref f1, .ref f2, .ref f3, .ref f4, .ref f5, .ref f6]))
    generalize upd H30 z (.lst [V.ref f1, .ref f2, .ref f3, .ref f4, .ref f5, .ref f6]) = H31 at u v kl kz ⊢
    clear sm hz kd kd2
    -- clear
    refine ⟨_, rfl, _, rfl, _, rfl, _, rfl, by show 4 ≤ sizeLine; decide, fun y hy => ?_⟩
    have uy := u.out hy
    have sm := same_new (o := .lst [V.ref n, .ref q, .ref s, .ref r]) hy
    have v := v.same sm
    have kl := sm _ _ kl
    have kz := sm _ _ kz
    have ky : upd H31 y (.lst [V.ref n, .ref q, .ref s, .ref r]) y = some (.lst [V.ref n, .ref q, .ref s, .ref r]) := upd_same
    generalize upd H31 y (.lst [V.ref n, .ref q, .ref s, .ref r]) = H32 at v kl ky kz ⊢
    clear sm hy u
    have v : Kv (Tof X) X.c_Eater H _ p a [l, s, q, n, r, p] tags ([e1, e2, e3, e4, e5, e6] ++ [f1, f2, f3, f4, f5, f6]) (forms6 tags wd tg ps of ++ forms6 tags wd tg ps of) := v
    have kl : _ = some (HO.lst ([e1, e2, e3, e4, e5, e6].map V.ref)) := kl
    have kz : _ = some (HO.lst ([f1, f2, f3, f4, f5, f6].map V.ref)) := kz
    have mk := forms6_mk (tags := tags) (wd := wd) (t := tg) (ps := ps) (k := of) to hw hwl htg ndp inp pl6 (by omega)
    have el : [e1, e2, e3, e4, e5, e6].length = 6 := rfl
    have fl : [f1, f2, f3, f4, f5, f6].length = 6 := rfl
    have Fl : (forms6 tags wd tg ps of).length = 6 := rfl
    generalize [e1, e2, e3, e4, e5, e6] = eL at v kl el
    generalize [f1, f2, f3, f4, f5, f6] = fL at v kz fl
    generalize forms6 tags wd tg ps of = FL at v mk Fl
    have lists : ∀ (i : Nat) (x : V), [V.ref n, .ref q, .ref s, .ref r][i]? = some x → ∃ c, x = .ref c ∧ c ∈ [l, s, q, n, r, p] ∧ c ≠ p ∧ l ≠ c ∧ z ≠ c ∧ y ≠ c := fun i x h => by
      have h := List.mem_of_getElem? h
      simp only [List.mem_cons, List.not_mem_nil, or_false] at h
      rcases h with rfl | rfl | rfl | rfl
      · exact ⟨_, rfl, by simp, np, ul.1.symm, uz.1.symm, uy.1.symm⟩
      · exact ⟨_, rfl, by simp, qp, ul.2.1.symm, uz.2.1.symm, uy.2.1.symm⟩
      · exact ⟨_, rfl, by simp, sp, ul.2.2.1.symm, uz.2.2.1.symm, uy.2.2.1.symm⟩
      · exact ⟨_, rfl, by simp, rp, ul.2.2.2.symm, uz.2.2.2.symm, uy.2.2.2.symm⟩
    refine ⟨_, rfl, ⟨_, SqL.of ky⟩, ?_⟩
    refine for_it (walk_list (K := K) (a := y) (xs := [V.ref n, .ref q, .ref s, .ref r])) (fun i σ H' => ∃ v10 v11 v12 : Option V, σ = [some (.ref p), some (.ref a), some (.ref n), some (.ref q), some (.ref s), some (.str tg), some (.ref r), some (.int (of : Int)), some (.ref l), some (.ref z), v10, v11, v12] ∧ Kv (Tof X) X.c_Eater H H' p a [l, s, q, n, r, p] tags (eL ++ fL) (FL ++ FL) ∧ H' l = some (.lst (eL.map V.ref)) ∧ H' z = some (.lst (fL.map V.ref)) ∧ H' y = some (.lst [V.ref n, .ref q, .ref s, .ref r]))
      ⟨none, none, none, rfl, v, kl, kz, ky⟩ (fun i σ H' _ h => by
        obtain ⟨_, _, _, _, _, _, _, h⟩ := h
        exact SqL.of h) ?_ ?_
    · rintro i x σ Ha Hb hi ⟨v10, v11, v12, rfl, v, kl, kz, ky⟩ ⟨rfl, hx⟩
      obtain ⟨c, rfl, cM, cp, cl, cz, cy⟩ := lists i x hx
      obtain ⟨xs, hc⟩ := v.ls c cM
      refine ⟨_, rfl, .inl ⟨rfl, _, SqL.of hc⟩, c, xs, rfl, rfl, hc, ?_⟩
      exact ⟨_, _, _, rfl, v.put cM cp, (upd_ne cl).trans kl, (upd_ne cz).trans kz, (upd_ne cy).trans ky⟩
    rintro σ Ha ⟨v10, v11, v12, rfl, v, kl, kz, ky⟩
    clear ky lists ul uz uy
    -- zip
    refine ⟨_, rfl, _, rfl, l, z, _, _, rfl, SqL.of kl, SqL.of kz, ?_⟩
    refine for_it (walk_zip (K := K) (a := l) (b := z) (xs := eL.map V.ref) (ys := fL.map V.ref) (n := 6) (by rw [List.length_map, List.length_map, el, fl]; rfl)) (fun i σ H' => ∃ v10 v11 v12 : Option V, σ = [some (.ref p), some (.ref a), some (.ref n), some (.ref q), some (.ref s), some (.str tg), some (.ref r), some (.int (of : Int)), some (.ref l), some (.ref z), v10, v11, v12] ∧ Kv (Tof X) X.c_Eater H H' p a [l, s, q, n, r, p] tags (eL ++ fL) (FL ++ FL) ∧ H' l = some (.lst (eL.map V.ref)) ∧ H' z = some (.lst (fL.map V.ref)))
      ⟨v10, v11, v12, rfl, v, kl, kz⟩ (fun i σ H' _ ⟨_, _, _, _, _, kl, kz⟩ => ⟨SqL.of kl, SqL.of kz⟩) ?_ ?_
    · rintro i x σ Hb Hc hi ⟨v10, v11, v12, rfl, v, kl, kz⟩ ⟨tp, x1, x2, rfl, ntp, rfl, h1, h2⟩
      have ei : eL[i]? = some (eL[i]'(by omega)) := List.getElem?_eq_getElem _
      have fi : fL[i]? = some (fL[i]'(by omega)) := List.getElem?_eq_getElem _
      have Fi : FL[i]? = some (FL[i]'(by omega)) := List.getElem?_eq_getElem _
      generalize eL[i]'(by omega) = e at ei
      generalize fL[i]'(by omega) = f at fi
      generalize FL[i]'(by omega) = F at Fi
      have h1 : (eL.map V.ref)[i]? = some x1 := h1
      have h2 : (fL.map V.ref)[i]? = some x2 := h2
      rw [List.getElem?_map, ei] at h1
      rw [List.getElem?_map, fi] at h2
      cases h1
      cases h2
      obtain ⟨g, m⟩ := mk F (List.mem_of_getElem? Fi)
      have v := v.new (o := .tup [V.ref e, .ref f]) ntp
      have kl := same_new (o := .tup [V.ref e, .ref f]) ntp _ _ kl
      have kz := same_new (o := .tup [V.ref e, .ref f]) ntp _ _ kz
      refine ⟨tp, _, rfl, SqT.of upd_same, rfl, _, _, rfl, _, _, rfl, rfl, ?_⟩
      generalize upd Hb tp (.tup [V.ref e, .ref f]) = Hc at v kl kz ⊢
      have E1 : ∀ H', Kv (Tof X) X.c_Eater H H' p a [l, s, q, n, r, p] tags (eL ++ fL) (FL ++ FL) → EatAt X.c_Eater H' e tags (least tags F) := fun H' v => v.at_ (j := i) (by rw [List.getElem?_append_left (by omega)]; exact ei) (by rw [List.getElem?_append_left (by omega)]; exact Fi)
      have E2 : ∀ H', Kv (Tof X) X.c_Eater H H' p a [l, s, q, n, r, p] tags (eL ++ fL) (FL ++ FL) → EatAt X.c_Eater H' f tags (least tags F) := fun H' v => v.at_ (j := 6 + i) (by rw [List.getElem?_append_right (by omega), el, Nat.add_sub_cancel_left]; exact fi) (by rw [List.getElem?_append_right (by omega), Fl, Nat.add_sub_cancel_left]; exact Fi)
      have okt : ∀ t ∈ tags, PyData.strOk t = true := fun t ht => (to.names t ht).txt
      -- tags
      obtain ⟨dx, xa, xb, i1, i2, i3⟩ := E1 _ v
      refine ⟨_, rfl, e, dx, _, rfl, i1, rfl, ?_⟩
      refine ⟨e, tags, _, rfl, E1 _ v, fun q1 hq1 => ?_⟩
      have v := v.new (o := .lst (vS tags)) hq1
      have w1 : WordAt (upd Hc q1 (.lst (vS tags))) q1 tags := upd_same
      have kl := same_new (o := .lst (vS tags)) hq1 _ _ kl
      have kz := same_new (o := .lst (vS tags)) hq1 _ _ kz
      generalize upd Hc q1 (.lst (vS tags)) = Hd at v w1 kl kz ⊢
      refine ⟨_, rfl, ?_⟩
      refine ne_self (dp_word w1) (dp_word v.tag) (shaped_word okt) ⟨_, rfl, ?_⟩
      refine iteF ?_
      clear i1 i2 i3 hq1 w1
      -- ==
      obtain ⟨dx, xa, xb, i1, i2, i3⟩ := E1 _ v
      obtain ⟨dy, ya, yb, j1, j2, j3⟩ := E2 _ v
      refine ⟨_, rfl, _, rfl, e, dx, _, _, rfl, i1, X.oc_Eater.ty X.cl_Eater j1, QO.OwnC.same, ?_⟩
      refine eatEq (E1 _ v) (E2 _ v) m.w m.w ?_
      refine ⟨_, rfl, ?_⟩
      rw [decide_eq_true rfl]
      refine ⟨_, rfl, ?_⟩
      refine iteF ?_
      -- then keep
      refine ⟨_, rfl, e, dx, _, rfl, i1, rfl, ?_⟩
      clear i2 i3 i1 j1 j2 j3
      refine ⟨_, rfl, a, tags, rfl, v.tag, to, v.tb, fun g1 gx _ _ _ He x1 _ n1 => ?_⟩
      have v := v.exT x1
      have kl := x1.lst kl
      have kz := x1.lst kz
      have K1 := n1.at_
      have mK := mk_keep to
      refine ⟨e, g1, tags, least tags F, least tags (putF tags []), rfl, E1 _ v, K1, to, m.good, mK.good, m.w, mK.w, by have := m.len2; have := mK.len2; omega, fun s hs => by have := m.wl2 s hs; omega, fun s hs => by have := mK.wl2 s hs; omega, by rw [m.keep mK to.nd]; have := m.len2; omega, fun s hs => by rw [m.keep mK to.nd] at hs; have := m.wl2 s hs; omega, v.tb, fun g2 gy _ _ _ Hf x2 _ n2 => ?_⟩
      have v := v.exT x2
      have kl := x2.lst kl
      have kz := x2.lst kz
      rw [m.keep mK to.nd] at n2
      have K2 := n2.at_
      clear x1 x2 n1
      obtain ⟨dy, ya, yb, j1, j2, j3⟩ := E2 _ v
      refine ⟨_, rfl, g2, gy, _, _, rfl, n2.ins, X.oc_Eater.ty X.cl_Eater j1, QO.OwnC.same, ?_⟩
      refine eatEq K2 (E2 _ v) m.w m.w ?_
      refine ⟨_, rfl, _, rfl, ?_⟩
      rw [decide_eq_true rfl]
      refine iteF ?_
      clear K1 K2 n2 j1 j2 j3
      -- on
      have hin : ∀ t ∈ tags ++ tags, t ∈ tags := fun t ht => (List.mem_append.mp ht).elim id id
      have h200 : (tags ++ tags).length ≤ 200 := by rw [List.length_append]; omega
      have rep2 : (List.replicate (2 : Int).toNat (vS tags)).flatten = vS (tags ++ tags) := by
        show vS tags ++ (vS tags ++ []) = _
        rw [List.append_nil, vS_append]
      have sz : (vS tags).length * (2 : Int).toNat ≤ sizeLine := by
        rw [vS_len]
        exact Nat.le_of_lt (sz_lt (by show tags.length * 2 < _; omega))
      have okm := fun t ht => (to.names t (make_sub m.w hin t ht)).txt
      obtain ⟨dx, xa, xb, i1, i2, i3⟩ := E1 _ v
      refine ⟨_, rfl, e, dx, _, rfl, i1, rfl, ?_⟩
      clear i1 i2 i3
      refine ⟨_, rfl, a, 2, _, rfl, rfl, v.tag, by decide, by decide, sz, fun q1 hq1 => ?_⟩
      rw [rep2]
      have v := v.new (o := .lst (vS (tags ++ tags))) hq1
      have w1 : WordAt (upd Hf q1 (.lst (vS (tags ++ tags)))) q1 (tags ++ tags) := upd_same
      have kl := same_new (o := .lst (vS (tags ++ tags))) hq1 _ _ kl
      have kz := same_new (o := .lst (vS (tags ++ tags))) hq1 _ _ kz
      generalize upd Hf q1 (.lst (vS (tags ++ tags))) = Hg at v w1 kl kz ⊢
      refine ⟨e, q1, tags, _, tags ++ tags, rfl, E1 _ v, w1, m.good, hin, h200, fun s hs => by have := m.wl2 s hs; omega, fun r1 Hh s1 _ y1 => ?_⟩
      have v := v.same s1
      have kl := s1 _ _ kl
      have kz := s1 _ _ kz
      clear w1 s1 hq1
      obtain ⟨dy, ya, yb, j1, j2, j3⟩ := E2 _ v
      refine ⟨_, rfl, f, dy, _, rfl, j1, rfl, ?_⟩
      clear j1 j2 j3
      refine ⟨_, rfl, a, 2, _, rfl, rfl, v.tag, by decide, by decide, sz, fun q2 hq2 => ?_⟩
      rw [rep2]
      have v := v.new (o := .lst (vS (tags ++ tags))) hq2
      have w2 : WordAt (upd Hh q2 (.lst (vS (tags ++ tags)))) q2 (tags ++ tags) := upd_same
      have kl := same_new (o := .lst (vS (tags ++ tags))) hq2 _ _ kl
      have kz := same_new (o := .lst (vS (tags ++ tags))) hq2 _ _ kz
      have y1 := same_new (o := .lst (vS (tags ++ tags))) hq2 _ _ y1
      generalize upd Hh q2 (.lst (vS (tags ++ tags))) = Hi at v w2 kl kz y1 ⊢
      refine ⟨f, q2, tags, _, tags ++ tags, rfl, E2 _ v, w2, m.good, hin, h200, fun s hs => by have := m.wl2 s hs; omega, fun r2 Hj s2 _ y2 => ?_⟩
      have v := v.same s2
      have kl := s2 _ _ kl
      have kz := s2 _ _ kz
      have y1 := s2 _ _ y1
      clear w2 s2 hq2
      refine ne_self (dp_word y1) (dp_word y2) (shaped_word okm) ⟨_, rfl, ?_⟩
      refine iteF ?_
      exact ⟨_, _, _, rfl, v, kl, kz⟩
    · rintro σ Hb ⟨v10, v11, v12, rfl, v, kl, kz⟩
      exact k _ v.ba v.pl v.tb
end
end Law
end

section
set_option Elab.async false
set_option linter.all false
set_option maxRecDepth 100000
set_option maxHeartbeats 4000000
namespace Law
open PySem PySem.Spec PyProof.Rows L2 LamX QB QM QV
theorem w_list (ds : List PyData) : (PyData.list ds).weight = PyData.weightAll ds := by rw [PyData.weight]
theorem w_tuple (ds : List PyData) : (PyData.tuple ds).weight = PyData.weightAll ds := by rw [PyData.weight]
theorem w_str (t : Str) : (PyData.str t).weight = t.length := by
  rw [PyData.weight]
  rfl
/-! data that are soon written -/
def okD (d : PyData) : Bool := d.leavesShort 30 && d.showable
structure Sm (n k : Nat) (d : PyData) : Prop where
  ok : okD d = true
  w : d.weight ≤ n
  dp : d.depth ≤ k
structure SmL (n k : Nat) (ds : List PyData) : Prop where
  ok : ∀ e ∈ ds, okD e = true
  dp : ∀ e ∈ ds, e.depth ≤ k
  w : PyData.weightAll ds ≤ n
theorem Sm.mono {n m k j : Nat} {d : PyData} (h : Sm n k d) (a : n ≤ m) (b : k ≤ j) : Sm m j d := ⟨h.ok, Nat.le_trans h.w a, Nat.le_trans h.dp b⟩
theorem SmL.mono {n m k j : Nat} {d : List PyData} (h : SmL n k d) (a : n ≤ m) (b : k ≤ j) : SmL m j d := ⟨h.ok, fun e he => Nat.le_trans (h.dp e he) b, Nat.le_trans h.w a⟩
theorem depthAll_le {k : Nat} : ∀ {ds : List PyData}, (∀ e ∈ ds, e.depth ≤ k) → PyData.depthAll ds ≤ k
  | [], _ => Nat.zero_le _
  | d :: ds, h => by
    rw [PyData.depthAll]
    exact Nat.max_le.mpr ⟨h d List.mem_cons_self, depthAll_le fun e he => h e (List.mem_cons_of_mem _ he)⟩
theorem okAll : ∀ {ds : List PyData}, (∀ e ∈ ds, okD e = true) → PyData.leavesShortAll 30 ds = true ∧ PyData.showableAll ds = true
  | [], _ => ⟨rfl, rfl⟩
  | d :: ds, h => by
    obtain ⟨a, b⟩ := okAll fun e he => h e (List.mem_cons_of_mem _ he)
    have c := h d List.mem_cons_self
    unfold okD at c
    rw [Bool.and_eq_true] at c
    rw [PyData.leavesShortAll, PyData.showableAll, c.1, c.2, a, b]
    exact ⟨rfl, rfl⟩
theorem SmL.list {n k : Nat} {ds : List PyData} (h : SmL n k ds) : Sm n (k + 1) (.list ds) := by
  obtain ⟨a, b⟩ := okAll h.ok
  refine ⟨?_, by rw [w_list]; exact h.w, ?_⟩
  · unfold okD
    rw [PyData.leavesShort, PyData.showable, a, b]
    rfl
  · rw [PyData.depth]
    have := depthAll_le h.dp
    omega
theorem SmL.tuple {n k : Nat} {ds : List PyData} (h : SmL n k ds) : Sm n (k + 1) (.tuple ds) := by
  obtain ⟨a, b⟩ := okAll h.ok
  refine ⟨?_, by rw [w_tuple]; exact h.w, ?_⟩
  · unfold okD
    rw [PyData.leavesShort, PyData.showable, a, b]
    rfl
  · rw [PyData.depth]
    have := depthAll_le h.dp
    omega
theorem weightAll_app : ∀ (a b : List PyData), PyData.weightAll (a ++ b) = PyData.weightAll a + PyData.weightAll b
  | [], b => by
    rw [List.nil_append, PyData.weightAll]
    omega
  | d :: a, b => by
    rw [List.cons_append, PyData.weightAll, PyData.weightAll, weightAll_app a b]
    omega
theorem SmL.nil {k : Nat} : SmL 0 k [] := ⟨(fun _ h => nomatch h), (fun _ h => nomatch h), Nat.le_refl _⟩
theorem SmL.cons {n m k : Nat} {d : PyData} {ds : List PyData} (a : Sm m k d) (b : SmL n k ds) : SmL (m + 1 + n) k (d :: ds) := by
  refine ⟨fun e he => ?_, fun e he => ?_, ?_⟩
  · rcases List.mem_cons.mp he with rfl | he
    · exact a.ok
    · exact b.ok e he
  · rcases List.mem_cons.mp he with rfl | he
    · exact a.dp
    · exact b.dp e he
  · rw [PyData.weightAll]
    have := a.w
    have := b.w
    omega
theorem SmL.app {n m k : Nat} {a b : List PyData} (h : SmL n k a) (g : SmL m k b) : SmL (n + m) k (a ++ b) := by
  refine ⟨fun e he => ?_, fun e he => ?_, ?_⟩
  · rcases List.mem_append.mp he with he | he
    · exact h.ok e he
    · exact g.ok e he
  · rcases List.mem_append.mp he with he | he
    · exact h.dp e he
    · exact g.dp e he
  · rw [weightAll_app]
    have := h.w
    have := g.w
    omega
theorem SmL.take {n k : Nat} {a : List PyData} (i : Nat) (h : SmL n k a) : SmL n k (a.take i) := by
  refine ⟨fun e he => h.ok e (List.mem_of_mem_take he), fun e he => h.dp e (List.mem_of_mem_take he), ?_⟩
  have := weightAll_app (a.take i) (a.drop i)
  rw [List.take_append_drop] at this
  have := h.w
  omega
theorem SmL.drop {n k : Nat} {a : List PyData} (i : Nat) (h : SmL n k a) : SmL n k (a.drop i) := by
  refine ⟨fun e he => h.ok e (List.mem_of_mem_drop he), fun e he => h.dp e (List.mem_of_mem_drop he), ?_⟩
  have := weightAll_app (a.take i) (a.drop i)
  rw [List.take_append_drop] at this
  have := h.w
  omega
/-- taking out and putting in between -/
theorem SmL.both {n m k : Nat} {a : List PyData} {b : List PyData} (i j : Nat) (hij : i ≤ j) (h : SmL n k a) (g : SmL m k b) : SmL (n + m) k (a.take i ++ b ++ a.drop j) := by
  refine ⟨fun e he => ?_, fun e he => ?_, ?_⟩
  · rcases List.mem_append.mp he with he | he
    · rcases List.mem_append.mp he with he | he
      · exact h.ok e (List.mem_of_mem_take he)
      · exact g.ok e he
    · exact h.ok e (List.mem_of_mem_drop he)
  · rcases List.mem_append.mp he with he | he
    · rcases List.mem_append.mp he with he | he
      · exact h.dp e (List.mem_of_mem_take he)
      · exact g.dp e he
    · exact h.dp e (List.mem_of_mem_drop he)
  · rw [weightAll_app, weightAll_app]
    have e1 := weightAll_app (a.take i) (a.drop i)
    rw [List.take_append_drop] at e1
    have e2 := weightAll_app ((a.drop i).take (j - i)) ((a.drop i).drop (j - i))
    rw [List.take_append_drop, List.drop_drop, show i + (j - i) = j by omega] at e2
    have := h.w
    have := g.w
    omega
theorem sm_non {k : Nat} : Sm 0 k .none := ⟨rfl, Nat.le_refl _, by rw [PyData.depth]; exact Nat.zero_le _⟩
theorem sm_bl {k : Nat} (b : Bool) : Sm 0 k (.bool b) := ⟨by cases b <;> rfl, by rw [PyData.weight]; exact Nat.le_refl _, by rw [PyData.depth]; exact Nat.zero_le _⟩
theorem sm_dct {k : Nat} : Sm 0 (k + 1) (.dict []) := ⟨rfl, Nat.le_refl _, by rw [PyData.depth, PyData.depthKv]; omega⟩
theorem sm_str {k n : Nat} {t : Str} (h : PyData.strOk t = true) (hl : t.length ≤ n) : Sm n k (.str t) := by
  refine ⟨?_, by rw [w_str]; exact hl, by rw [PyData.depth]; exact Nat.zero_le _⟩
  unfold okD
  rw [PyData.leavesShort, PyData.showable, Bool.and_true, List.all_eq_true]
  unfold PyData.strOk at h
  rw [← Array.all_toList, List.all_eq_true] at h
  intro c hc
  have := of_decide_eq_true (h c hc)
  exact decide_eq_true (by omega)
theorem sm_nat {k : Nat} {i : Nat} (h : i ≤ 100) : Sm 8 k (.int (i : Int)) := by
  have all : ∀ i : Fin 101, okD (.int (i.val : Int)) = true ∧ (PyData.int (i.val : Int)).weight ≤ 8 := by decide +kernel
  obtain ⟨a, b⟩ := all ⟨i, by omega⟩
  exact ⟨a, b, by rw [PyData.depth]; exact Nat.zero_le _⟩
theorem Sm.shows {d : PyData} (h : Sm 50000 40 d) : Shows d := by
  have := h.ok
  unfold okD at this
  rw [Bool.and_eq_true] at this
  exact ⟨this.1, this.2, Nat.le_trans h.w (by decide), h.dp⟩

/-! tags, a word, some, pairs: written -/
theorem dv_word {H : Hp} {a : Addr} {w : Word} (h : WordAt H a w) : Dv H (.ref a) (.list (txts w)) := by
  refine .lst h ?_
  clear h
  induction w with
  | nil => exact .nil
  | cons t w ih => exact .cons (.str t) ih
theorem sm_word {k : Nat} : ∀ {w : Word}, (∀ t ∈ w, PyData.strOk t = true ∧ t.length ≤ 8) → SmL (w.length * 9) k (txts w)
  | [], _ => SmL.nil
  | t :: w, h => by
    have a := h t List.mem_cons_self
    exact (SmL.cons (sm_str a.1 a.2) (sm_word fun x hx => h x (List.mem_cons_of_mem _ hx))).mono (by rw [List.length_cons]; omega) (Nat.le_refl _)
def pairsD (ps : List (Str × Str)) : List PyData := ps.map fun p => .tuple [.str p.1, .str p.2]
theorem dv_pairs {H : Hp} {a : Addr} {ps : List (Str × Str)} (h : PairsAt H a ps) : Dv H (.ref a) (.list (pairsD ps)) := by
  obtain ⟨ts, h1, h2⟩ := h
  refine .lst h1 ?_
  clear h1
  induction h2 with
  | nil => exact .nil
  | cons h _ ih => exact .cons (.tup h (.cons (.str _) (.cons (.str _) .nil))) ih
theorem sm_pairs {k : Nat} : ∀ {ps : List (Str × Str)}, (∀ p ∈ ps, (PyData.strOk p.1 = true ∧ p.1.length ≤ 8) ∧ (PyData.strOk p.2 = true ∧ p.2.length ≤ 8)) → SmL (ps.length * 20) (k + 1) (pairsD ps)
  | [], _ => SmL.nil
  | p :: ps, h => by
    have a := h p List.mem_cons_self
    exact (SmL.cons (SmL.cons (sm_str (k := k) a.1.1 a.1.2) (SmL.cons (sm_str a.2.1 a.2.2) .nil)).tuple (sm_pairs fun x hx => h x (List.mem_cons_of_mem _ hx))).mono (by rw [List.length_cons]; omega) (Nat.le_refl _)
def allD (tags wd sm : Word) (ps : List (Str × Str)) : PyData := .list [.list (txts tags), .list (txts wd), .list (txts sm), .list (pairsD ps)]
theorem shows_all {tags wd sm : Word} {ps : List (Str × Str)} (to : TagsOk tags) (l1 : tags.length ≤ 4) (h2 : ∀ t ∈ wd, t ∈ tags) (l2 : wd.length ≤ 8) (h3 : ∀ t ∈ sm, t ∈ tags) (l3 : sm.length ≤ 4) (h4 : ∀ p ∈ ps, p.1 ∈ tags ∧ p.2 ∈ tags) (l4 : ps.length ≤ 4) : Shows (allD tags wd sm ps) := by
  have nm : ∀ t ∈ tags, PyData.strOk t = true ∧ t.length ≤ 8 := fun t ht => ⟨(to.names t ht).txt, (to.names t ht).len⟩
  have a := (sm_word (k := 1) (w := tags) nm).list
  have b := (sm_word (k := 1) (w := wd) fun t ht => nm t (h2 t ht)).list
  have c := (sm_word (k := 1) (w := sm) fun t ht => nm t (h3 t ht)).list
  have d := (sm_pairs (k := 0) (ps := ps) fun p hp => ⟨nm _ (h4 p hp).1, nm _ (h4 p hp).2⟩).list
  exact Sm.shows (((SmL.cons a (SmL.cons b (SmL.cons c (SmL.cons d .nil)))).list).mono (by omega) (by omega))
theorem dv_all {H : Hp} {a b c d e : Addr} {tags wd sm : Word} {ps : List (Str × Str)} (h : H e = some (.lst [.ref a, .ref b, .ref c, .ref d])) (h1 : WordAt H a tags) (h2 : WordAt H b wd) (h3 : WordAt H c sm) (h4 : PairsAt H d ps) : Dv H (.ref e) (allD tags wd sm ps) :=
  .lst h (.cons (dv_word h1) (.cons (dv_word h2) (.cons (dv_word h3) (.cons (dv_pairs h4) .nil))))
/-- one branch, or the other, and then the same -/
theorem ite_key {b : Bool} {A B : TS} {D : Ends} {σ : L2.St} {H : Hp} (Mid : L2.St → Hp → Prop) (k : ∀ σ' H', Mid σ' H' → D.nx σ' H') (hA : (∀ σ' H', Mid σ' H' → D.nx σ' H') → b = true → A D σ H) (hB : (∀ σ' H', Mid σ' H' → D.nx σ' H') → b = false → B D σ H) : if b = true then A D σ H else B D σ H := by
  cases b with
  | true => exact hA k rfl
  | false => exact hB k rfl
end Law
end

section
set_option linter.all false
set_option maxRecDepth 100000
set_option maxHeartbeats 4000000
/-! Qguard: a promise of a def that is called where no repr is under way. -/
namespace QG
open PySem PySem.Spec PyProof.Rows L2 LamX
/-- FnOk, but only where the guards are known -/
structure FnG (P : Program) (w : World) (K : PySem.W.Frag) (mg : Str → Option Value) (base : Heap) (CX : CXT) (k : Nat) (f : Addr) (fd : FuncData) (ps : List Str) (sp : Sp) : Prop where
  len : ∀ vs H Q E, sp vs H Q E → vs.length = ps.length
  run : ∀ (A : Around) (outer : List Env) (s : Shared) (H : Hp) (args : Args) (us : List Value) (vs : List V) (Q : VK) (E : XK), A.guards = some [] → Room k A → Env0 P w K mg base A outer s H → BindsTo s fd args (ps.zip us) → Vals vs us → sp vs H Q E →
    codeAny (model P w) A (.call (.ref f) args) (CR CX outer P w H s Q E) s
section
variable {P : Program} {w : World} {K : PySem.W.Frag} {mg : Str → Option Value} {base : Heap}
theorem guards_in {A : Around} {env : Env} (h : A.guards = some []) : (A.deeper env).guards = some [] := h
theorem fnG {x qual : Str} {st : Stmt} {f : Addr} {fd : FuncData} {N ps : List Str} {k : Nat} {sp : Sp} (F : Fun K x qual st f fd) (S : FnScope N ps (defScope st)) (len : ∀ vs H Q E, sp vs H Q E → vs.length = ps.length)
    (hbody : ∀ (cdv : Value) (A : Around) (outer : List Env) (s : Shared) (H : Hp) (vs : List V) (Q : VK) (E : XK), A.guards = some [] → Room k (A.deeper (envOfC qual (defScope st) s.heap.objs.size f cdv)) → sp vs H Q E →
      ∃ t, PSs (cxOf CX0 P w K mg base N qual (defScope st) f cdv A outer s H E).nox (defBody st) t ∧ t { nx := fun _ H' => Q .non H', rt := Q } (start N vs) H) : FnG P w K mg base CX0 (k + 1) f fd ps sp := by
  obtain ⟨oc, od, kV, doc, pm, an, cdv, ct, osl, rfl, lk, hcd⟩ := F.ex
  refine ⟨len, fun A outer s H args us vs Q E hg hr e0 hb r hsp => ?_⟩
  have stay : ∀ b o, base.get? b = some o → s.heap.get? b = some o := fun b o e => (e0.bs b o e).1
  have kin : K.In s.heap := e0.mod.kin.keeps stay
  have where_ : ∀ z ∈ ps.zip us, (defScope st).names.lookup z.1 = some .local ∨ ((defScope st).names.lookup z.1 = some .cell ∧ ((cellsFrom (s.heap.objs.size + 1) (defScope st).names []).lookup z.1).isSome = true) := fun z hz => by
    rcases S.par z.1 (List.of_mem_zip hz).1 with q | q
    · exact .inl q
    · exact .inr ⟨q, PySem.W.cellsFrom_some _ _ _ (.inl q)⟩
  refine codeAny_call_function hr.depth (kin _ _ lk) rfl S.co S.gen rfl (PySem.W.codeRec_of kin hcd) (hb _ _ _ _ (wpAny_newFunctionEnv_cells S.kind where_ fun env he s1 q1 => ?_))
  subst he
  refine ⟨(e0.mod.nolimit.keeps stay).keeps q1.toInCall.keep, codeAny_func ?_⟩
  obtain ⟨t, ht, hq⟩ := hbody cdv A outer s H vs Q E hg (hr.deeper _) hsp
  have I : Inv (cxOf CX0 P w K mg base N qual (defScope st) f cdv A outer s H E) [] (start N vs) H s1 := inv_start S hr.hd e0 (len _ _ _ _ hsp) r q1
  refine wpAny_mono (ht.nox.run [] s1 (start N vs) H _ I hq) (fun fl s' hs => ?_) fun _ _ hs => hs
  cases fl with
  | ret z =>
    obtain ⟨v', τ, G, J, rv, q⟩ := hs
    exact ⟨v', G, J.os, J.bare, J.base, J.hok, rv, q⟩
  | next =>
    obtain ⟨τ, G, J, q⟩ := hs
    exact ⟨.non, G, J.os, J.bare, J.base, J.hok, rfl, q⟩
  | brk =>
    obtain ⟨τ, G, J, q⟩ := hs
    exact q.elim
  | cont =>
    obtain ⟨τ, G, J, q⟩ := hs
    exact q.elim
end
section
variable {X : Cx} {CX : CXT} {k : Nat} {f : Addr} {fd : FuncData} {ps : List Str} {sp : Sp} {E : XK} {x : Str} {p pos : Pos} {e : Expr} {es : List Expr} {t : TA}
/-- f(e, ..), f such a def -/
theorem pe_callG (F : FnG X.prog X.w X.K X.mg X.base CX k f fd ps sp) (gg : X.A.guards = some []) (hr : Room k X.A) (hg : Gl X x) (hm : X.mg x = some (.ref f)) (hk : PySem.W.keepIn X.K (.ref f) = true) (hb : Binds X.K fd ps []) (hx : Passes CX X E)
    (ha : PA X (e :: es) t) (hdb : (x == ("__debug__" : Str)) = false := by decide) (he : starEach (e :: es) X.env = (false, eval e X.env) :: starEach es X.env := by rfl) (hpl : (backTo pos (starEach es X.env)).any (·.1) = false := by rfl) :
    PE X (.Call (.Name x p) (e :: es) [] pos) (tCall sp [] E t) := by
  refine ⟨fun pins s σ H Q I h => ?_⟩
  refine wpAny_Call_Name_kw (ld_glob I hg hm ?_ hdb)
  refine PySem.W.callWith_K (h₀ := X.base) I.ok.mod.kin hk (thn (ha.run pos pins s σ H _ I h) fun us s1 ⟨vs, H1, I1, r, q⟩ => ⟨I1.kIn, ?_⟩) he hpl
  have q : sp vs H1 Q E := by
    have q : sp (vs ++ []) H1 Q E := q
    rw [List.append_nil] at q
    exact q
  have hl : us.length = ps.length := by rw [← r.length]; exact F.len _ _ _ _ q
  have b := hb s1 us I1.kIn (by rw [List.append_nil]; exact hl)
  rw [List.append_nil] at b
  refine wpAny_call (codeAny_mono (F.run X.A X.stack s1 H1 ⟨us, []⟩ us vs Q E gg hr I1.env0 b r q) fun r s' hq => ?_)
  cases r with
  | error e => exact hx pins σ H1 s1 e s' I1 hq
  | ok fl =>
    cases fl with
    | ret u => exact I1.after hq
    | next => exact False.elim hq
    | brk => exact False.elim hq
    | cont => exact False.elim hq
end
end QG
end

section
set_option Elab.async false
set_option linter.all false
set_option maxRecDepth 100000
/-! Qmore: rules with the written part named, for turned lists and the truth of a list. -/
namespace QN
open PySem PySem.Spec PyProof.Rows L2
section
variable {X : Cx} (K : PySem.W.Frag)
theorem pe_turn {e : Expr} {te : TE} {k : Nat} {p1 p2 p3 pos : Pos} (he : PE X e te) (h : X.K = K := by rfl) : PE X (.Subscript e (.Slice none none (some (.UnaryOp .USub (.Constant (.int 1) k p1) p2)) p3) pos) (tRevL K te) := h ▸ pe_revL he
def tTru (K : PySem.W.Frag) (ta : TE) : TT := fun σ H Q => ta σ H fun x H' => ∃ k, TruV K x H' k ∧ Q k H'
theorem pt_tru {a : Expr} {ta : TE} (ha : PE X a ta) (h : X.K = K := by rfl) (he : ∀ whole, isTrue a X.env whole = (do let v ← whole; standAt a.pos; holding [v] (truthy v)) := by intro _; rfl) : PT X a (tTru K ta) := h ▸ pt_truth ha he
theorem sl_tupK (h : X.K = K := by rfl) : SlR X (rSlT K) := h ▸ sl_tup
end
end QN
namespace QB
open PySem PySem.Spec PyProof.Rows L2
theorem enc_nat : Enc (fun n : Nat => PyData.int (n : Int)) (fun _ => True) 0 := ⟨fun x y => by
  have e := enc_int.eq (x : Int) (y : Int)
  rw [e]
  by_cases h : x = y
  · subst h
    simp
  · rw [decide_eq_false h, decide_eq_false (by omega)], fun x _ => enc_int.lay (x : Int) trivial, fun x => enc_int.dep (x : Int)⟩
def dNats (row : List Nat) : PyData := .list (row.map fun n : Nat => PyData.int (n : Int))
theorem enc_nats : Enc dNats (fun l => ∀ x ∈ l, True) 1 := enc_nat.list
theorem dp_nats {K : PySem.W.Frag} {H : Hp} {a : Addr} {row : List Nat} (h : H a = some (.lst (row.map fun (n : Nat) => V.int (n : Int)))) : Dp K H (.ref a) (dNats row) := .lst (SqL.of h) (dpAll_map _ _ (fun x => .int _) row)
end QB
end

section
set_option Elab.async false
set_option linter.all false
set_option maxRecDepth 100000
set_option maxHeartbeats 4000000
namespace Law
open PySem PySem.Spec PyProof.Rows L2 LamX QB QM QV
theorem sublist_snoc {α : Type} {l m : List α} (h : l.Sublist m) (x : α) : (l ++ [x]).Sublist (m ++ [x]) := h.append (List.Sublist.refl [x])
theorem hide_pairs {H : Hp} {p r : Addr} {ps : List (Str × Str)} (pl : PileAt H p) (rp : r ≠ p) (h : PairsAt H r ps) : PairsAt (hideT [p] H) r ps := by
  obtain ⟨ts, h1, h2⟩ := h
  refine ⟨ts, hideT_at (by simpa using rp) h1, L2.Paired.mapP h2 fun z _ h => hideT_at (fun e => ?_) h⟩
  obtain ⟨_, _, _, y⟩ := pl
  rw [List.mem_singleton.mp e, y] at h
  cases h
theorem dp_wds {K : PySem.W.Frag} {H : Hp} {a : Addr} {as : List Addr} {ws : List Word} (h : H a = some (.lst (as.map V.ref))) (h2 : Paired (fun z w => WordAt H z w) as ws) : Dp K H (.ref a) (.list (ws.map dWord)) := by
  refine .lst (SqL.of h) ?_
  clear h
  induction h2 with
  | nil => exact .nil
  | cons h _ ih => exact .cons (dp_wd h) ih
theorem ne_wds {K : PySem.W.Frag} {H : Hp} {a b : Addr} {as bs : List Addr} {ws : List Word} {Q : VK} (h : H a = some (.lst (as.map V.ref))) (h2 : Paired (fun z w => WordAt H z w) as ws) (g : H b = some (.lst (bs.map V.ref))) (g2 : Paired (fun z w => WordAt H z w) bs ws) (ok : ∀ w ∈ ws, OkWord w) (q : Q (.bl false) H) : rNeD K (.ref a) (.ref b) H Q :=
  ne_self (dp_wds h h2) (dp_wds g g2) (shaped_of enc_word.list (by decide) ok) q
theorem or_zero {K : PySem.W.Frag} {G : V → Hp → Prop} {σ : L2.St} {H : Hp} {o : Option Nat} (h : G (.int ((o.getD 0 : Nat) : Int)) H) : ∃ k, TruV K (noV o) H k ∧ if k = true then G (noV o) H else tC (.int 0) σ H G := by
  cases o with
  | none => exact ⟨false, rfl, h⟩
  | some n =>
    cases n with
    | zero => exact ⟨false, rfl, h⟩
    | succ n => exact ⟨true, rfl, h⟩
theorem or_key {G : Bool → Hp → Prop} {tB : TT} {σ : L2.St} {H : Hp} {k : Bool} (Mid : Bool → Hp → Prop) (fin : ∀ b H', Mid b H' → G b H') (h1 : k = true → Mid true H) (h2 : k = false → (∀ b H', Mid b H' → G b H') → tB σ H G) : if k = true then G true H else tB σ H G := by
  cases k with
  | true => exact fin _ _ (h1 rfl)
  | false => exact h2 rfl fin
theorem Paired.rev {α β : Type} {R : α → β → Prop} {l : List α} {m : List β} (h : Paired R l m) : Paired R l.reverse m.reverse := by
  induction h with
  | nil => exact .nil
  | cons h _ ih =>
    rw [List.reverse_cons, List.reverse_cons]
    exact Paired.snoc ih h
theorem cnt_congr {sm sm' : Word} (h : ∀ t, t ∈ sm ↔ t ∈ sm') : ∀ (w : Word) (o : Option Nat), cnt sm o w = cnt sm' o w
  | [], _ => rfl
  | t :: w, o => by
    by_cases e : t ∈ sm ∧ o ≠ some 0
    · rw [cnt_go e.1 e.2, cnt_go ((h t).mp e.1) e.2, cnt_congr h w]
    · rw [cnt_no e, cnt_no fun z => e ⟨(h t).mpr z.1, z.2⟩]
theorem news_snoc {ps : List (Str × Str)} {p : Str × Str} : news (ps ++ [p]) = news ps ++ if p.1 = p.2 then [] else [p.2] := by
  unfold news
  rw [List.filter_append, List.map_append]
  congr 1
  by_cases e : p.1 = p.2
  · simp [e]
  · simp [e]
theorem news_len {ps : List (Str × Str)} : (news ps).length ≤ ps.length := by
  unfold news
  rw [List.length_map]
  exact List.length_filter_le _ _
theorem seq_key {t : TT} {A B R : TS} {D : Ends} {σ : L2.St} {H : Hp} (Mid : L2.St → Hp → Prop) (k : ∀ σ' H', Mid σ' H' → R D σ' H') (h : (∀ σ' H', Mid σ' H' → R D σ' H') → tIfS t A B { D with nx := R D } σ H) : tSeq (tIfS t A B) R D σ H := h k
theorem flat_tags {t : Str} (n : Nat) {i : Int} (h : i = (n : Int)) : (List.replicate i.toNat [V.str t]).flatten = vS (List.replicate n t) := by
  rw [h, Int.toNat_natCast, rep_one, vS_rep]
/-- the lists that are handed in, and stay -/
structure Kx (H : Hp) (p c q s r : Addr) (sub wd sm : Word) (ps : List (Str × Str)) : Prop where
  c : WordAt (hideT [p] H) c sub
  q : WordAt (hideT [p] H) q wd
  s : WordAt (hideT [p] H) s sm
  r : PairsAt (hideT [p] H) r ps
section
variable {T : List (Addr × Str)} {C : Addr} {H H1 : Hp} {p a c q s r : Addr} {M : List Addr} {tags sub wd sm : Word} {ps : List (Str × Str)} {es : List Addr} {Fs : List Form}
theorem Kx.re (x : Kx H p c q s r sub wd sm ps) (v : Kv T C H H1 p a M tags es Fs) : Kx H1 p c q s r sub wd sm ps := ⟨Same.word v.ba x.c, Same.word v.ba x.q, Same.word v.ba x.s, x.r.same v.ba⟩
theorem Kx.c_ (x : Kx H p c q s r sub wd sm ps) (v : Kv T C H H1 p a M tags es Fs) : WordAt H1 c sub := Same.word hideT_sub (Same.word v.ba x.c)
theorem Kx.q_ (x : Kx H p c q s r sub wd sm ps) (v : Kv T C H H1 p a M tags es Fs) : WordAt H1 q wd := Same.word hideT_sub (Same.word v.ba x.q)
theorem Kx.s_ (x : Kx H p c q s r sub wd sm ps) (v : Kv T C H H1 p a M tags es Fs) : WordAt H1 s sm := Same.word hideT_sub (Same.word v.ba x.s)
theorem Kx.r_ (x : Kx H p c q s r sub wd sm ps) (v : Kv T C H H1 p a M tags es Fs) : PairsAt H1 r ps := (x.r.same v.ba).same hideT_sub
end
section
variable {P : Program} {w : World} {K : PySem.W.Frag} {mg : Str → Option Value} {base : Heap}
def spOnes (T : List (Addr × Str)) : Sp := fun vs H Q _ => ∃ (p a c : Addr) (tags sub : Word), vs = [.ref p, .ref a, .ref c] ∧ PileAt H p ∧ WordAt H a tags ∧ WordAt H c sub ∧ TagsOk tags ∧ tags.length ≤ 4 ∧ (∀ t ∈ sub, t ∈ tags) ∧ sub.length ≤ 100 ∧ Tabs T H ∧
  ∀ H', Same (hideT [p] H) (hideT [p] H') → PileAt H' p → Tabs T H' → Q (.bl true) H'
theorem ok__law_ones_right (X : TX K mg) (TB : LamX.TabB base mg X.lam_c X.lam_P) (hB : ∃ mm, base.Ns sysModules mm) : QG.FnG P w K mg base CX0 12 X.d__law_ones_right.a X.d__law_ones_right.fd ["pile", "tags", "subject"] (spOnes (Tof X)) := by
  have nd := sc__law_ones_right.nd
  refine QG.fnG X.d__law_ones_right.F sc__law_ones_right (fun vs H Q E h => ?_) (fun cdv A outer s0 H vs Q E gg hr h => ?_)
  · obtain ⟨p, a, c, tags, sub, rfl, _⟩ := h
    rfl
  · obtain ⟨p, a, c, tags, sub, rfl, hp, ha, hc, to, tl4, hsub, hsl, tb, k⟩ := h
    have hg : (A.deeper (envOfC "_law_ones_right" (defScope s__law_ones_right) s0.heap.objs.size X.d__law_ones_right.a cdv)).guards = some [] := gg
    refine ⟨_, (pss_cons (ps_set (i := 3) nd rfl (Or.inl rfl) (pe_call (ok__law_subject X) (hr.mono (by decide)) rfl X.d__law_subject.mg X.d__law_subject.F.kp X.d__law_subject.b .nil pass0 (pa_cons (pv 0) (pa_cons (pv 1) (pa_cons pe_int pa_nil))))) (pss_cons (ps_setLc (i := 5) (own := [("tag", 4)]) (g := gName 4) rfl nd rfl rfl (sw_true rfl rfl rfl (by decide +kernel)) (QB.pi_listK K (pv 1)) (blkOk_by (N := ["pile", "tags", "subject", "word", "tag", "some", "most", "often", "pairs", "before", "made_v", "due", "sizes", "moved_v", "old", "new", "eater"]) (sc := defScope s__law_ones_right) (by decide +kernel)) (fun _ _ _ _ _ => pg_name (i := 4) nd rfl (Or.inl rfl)) (fun _ _ _ _ _ => pts_one (pt_cmpR op_eq (pe_call (ok__law_take X) (hr.mono (by decide)) rfl X.d__law_take.mg X.d__law_take.F.kp X.d__law_take.b .nil pass0 (pa_cons (pv 0) (pa_cons pe_int pa_nil))) pe_int (nomark _))) (fun _ _ _ _ _ => (pv 4))) (pss_cons (ps_if (pt_cmpR op_eq (pe_call (ok__law_take X) (hr.mono (by decide)) rfl X.d__law_take.mg X.d__law_take.F.kp X.d__law_take.b .nil pass0 (pa_cons (pv 0) (pa_cons pe_int pa_nil))) pe_int (nomark _)) (pss_one (ps_set (i := 5) nd rfl (Or.inl rfl) (QN.pe_turn K (pv 5)))) pss_nil) (pss_cons (ps_set (i := 6) nd rfl (Or.inl rfl) (pe_ix (QB.ix_listK K) (pe_lst (pa_cons pe_non (pa_cons (pe_call (ok__law_take X) (hr.mono (by decide)) rfl X.d__law_take.mg X.d__law_take.F.kp X.d__law_take.b .nil pass0 (pa_cons (pv 0) (pa_cons pe_int pa_nil))) (pa_cons (pe_call (ok__law_take X) (hr.mono (by decide)) rfl X.d__law_take.mg X.d__law_take.F.kp X.d__law_take.b .nil pass0 (pa_cons (pv 0) (pa_cons pe_int pa_nil))) pa_nil)))) (pe_call (ok__law_take X) (hr.mono (by decide)) rfl X.d__law_take.mg X.d__law_take.F.kp X.d__law_take.b .nil pass0 (pa_cons (pv 0) (pa_cons pe_int pa_nil))) (fun _ _ => rfl))) (pss_cons (ps_set (i := 4) nd rfl (Or.inl rfl) (pe_ix (QB.ix_listK K) (pv 1) (pe_call (ok__law_take X) (hr.mono (by decide)) rfl X.d__law_take.mg X.d__law_take.F.kp X.d__law_take.b .nil pass0 (pa_cons (pv 0) (pa_cons (pe_callB (QB.call_lenK K) (by rfl) X.n_len PySem.boot_len (pa_cons (pv 1) pa_nil)) pa_nil))) (fun _ _ => rfl))) (pss_cons (ps_set (i := 7) nd rfl (Or.inl rfl) (pe_ix (QB.ix_listK K) (pe_lst (pa_cons (pe_call (ok__law_take X) (hr.mono (by decide)) rfl X.d__law_take.mg X.d__law_take.F.kp X.d__law_take.b .nil pass0 (pa_cons (pv 0) (pa_cons pe_int pa_nil))) (pa_cons (pe_call (ok__law_take X) (hr.mono (by decide)) rfl X.d__law_take.mg X.d__law_take.F.kp X.d__law_take.b .nil pass0 (pa_cons (pv 0) (pa_cons pe_int pa_nil))) pa_nil))) (pe_call (ok__law_take X) (hr.mono (by decide)) rfl X.d__law_take.mg X.d__law_take.F.kp X.d__law_take.b .nil pass0 (pa_cons (pv 0) (pa_cons pe_int pa_nil))) (fun _ _ => rfl))) (pss_cons (ps_setLc (i := 8) (own := [("old", 14)]) (g := gName 14) rfl nd rfl rfl (sw_true rfl rfl rfl (by decide +kernel)) (QB.pi_listK K (QN.pe_turn K (pv 1))) (blkOk_by (N := ["pile", "tags", "subject", "word", "tag", "some", "most", "often", "pairs", "before", "made_v", "due", "sizes", "moved_v", "old", "new", "eater"]) (sc := defScope s__law_ones_right) (by decide +kernel)) (fun _ _ _ _ _ => pg_name (i := 14) nd rfl (Or.inl rfl)) (fun _ _ _ _ _ => pts_one (pt_cmpR op_gt (pe_call (ok__law_take X) (hr.mono (by decide)) rfl X.d__law_take.mg X.d__law_take.F.kp X.d__law_take.b .nil pass0 (pa_cons (pv 0) (pa_cons pe_int pa_nil))) pe_int (nomark _))) (fun _ _ _ _ _ => (pe_tup (pa_cons (pv 14) (pa_cons (pe_ix (QB.ix_listK K) (pv 1) (pe_call (ok__law_take X) (hr.mono (by decide)) rfl X.d__law_take.mg X.d__law_take.F.kp X.d__law_take.b .nil pass0 (pa_cons (pv 0) (pa_cons (pe_callB (QB.call_lenK K) (by rfl) X.n_len PySem.boot_len (pa_cons (pv 1) pa_nil)) pa_nil))) (fun _ _ => rfl)) pa_nil))))) (pss_cons (ps_set (i := 9) nd rfl (Or.inl rfl) (pe_callB (QV.call_reprV hg hr.units hB) (by rfl) X.n_repr QV.bo_repr (pa_cons (pe_lst (pa_cons (pv 1) (pa_cons (pv 3) (pa_cons (pv 5) (pa_cons (pv 8) pa_nil))))) pa_nil))) (pss_cons (ps_set (i := 10) nd rfl (Or.inl rfl) (pe_lst (pa_cons (pe_call (ok_keep X TB) (hr.mono (by decide)) rfl X.d_keep.mg X.d_keep.F.kp X.d_keep.b .nil pass0 (pa_cons (pv 1) pa_nil)) (pa_cons (pe_call (ok_put X TB) (hr.mono (by decide)) rfl X.d_put.mg X.d_put.F.kp X.d_put.b .nil pass0 (pa_cons (pv 1) (pa_cons (pv 3) pa_nil))) (pa_cons (pe_call (ok_strip X TB) (hr.mono (by decide)) rfl X.d_strip.mg X.d_strip.F.kp X.d_strip.b .nil pass0 (pa_cons (pv 1) (pa_cons (pv 5) (pa_cons (pv 6) pa_nil)))) (pa_cons (pe_call (ok_once X TB) (hr.mono (by decide)) rfl X.d_once.mg X.d_once.F.kp X.d_once.b .nil pass0 (pa_cons (pv 1) (pa_cons (pv 4) pa_nil))) (pa_cons (pe_call (ok_exchange X TB) (hr.mono (by decide)) rfl X.d_exchange.mg X.d_exchange.F.kp X.d_exchange.b .nil pass0 (pa_cons (pv 1) (pa_cons (pv 8) pa_nil))) pa_nil))))))) (pss_cons (ps_expr (QB.pe_bmK K PySem.F.plainAttrs_list PySem.F.slot_list_append PySem.F.type_list_append mt_append (pv 10) (pa_cons (pe_call (ok_press X TB) (hr.mono (by decide)) rfl X.d_press.mg X.d_press.F.kp X.d_press.b .nil pass0 (pa_cons (pv 1) (pa_cons (pv 4) (pa_cons (pv 7) pa_nil)))) pa_nil))) (pss_cons (ps_set (i := 11) nd rfl (Or.inl rfl) (pe_lst (pa_cons (pv 2) (pa_cons (pe_op op_cat (pv 3) (pv 2)) (pa_cons (pe_call (ok__law_stripped X) (hr.mono (by decide)) rfl X.d__law_stripped.mg X.d__law_stripped.F.kp X.d__law_stripped.b .nil pass0 (pa_cons (pv 2) (pa_cons (pv 5) (pa_cons (pv 6) pa_nil)))) (pa_cons (pe_op op_cat (pe_lst (pa_cons (pv 4) pa_nil)) (pe_call (ok__law_stripped X) (hr.mono (by decide)) rfl X.d__law_stripped.mg X.d__law_stripped.F.kp X.d__law_stripped.b .nil pass0 (pa_cons (pv 2) (pa_cons (pe_lst (pa_cons (pv 4) pa_nil)) (pa_cons pe_int pa_nil))))) pa_nil)))))) (pss_cons (ps_set (i := 11) nd rfl (Or.inl rfl) (pe_op op_cat (pv 11) (pe_lst (pa_cons (pe_call (ok__law_exchanged X) (hr.mono (by decide)) rfl X.d__law_exchanged.mg X.d__law_exchanged.F.kp X.d__law_exchanged.b .nil pass0 (pa_cons (pv 2) (pa_cons (pv 8) pa_nil))) (pa_cons (pe_call (ok__law_pressed X) (hr.mono (by decide)) rfl X.d__law_pressed.mg X.d__law_pressed.F.kp X.d__law_pressed.b .nil pass0 (pa_cons (pv 2) (pa_cons (pv 4) (pa_cons (pv 7) pa_nil)))) pa_nil))))) (pss_cons (ps_if (PW.pt (pw_or (pt_cmpR (QB.op_neDK K hr.units) (pe_lc (own := [("eater", 16)]) (g := gName 16) (tt := tYes) rfl nd (QB.pi_listK K (pv 10)) (blkOk_by (N := ["pile", "tags", "subject", "word", "tag", "some", "most", "often", "pairs", "before", "made_v", "due", "sizes", "moved_v", "old", "new", "eater"]) (sc := defScope s__law_ones_right) (by decide +kernel)) (fun _ _ _ _ _ => pg_name (i := 16) nd rfl (Or.inl rfl)) (fun _ _ _ _ _ => pts_nil) (fun _ _ _ _ _ => (pe_meth (pv 16) X.cl_Eater X.h_Eater_on (ok_Eater_on X) (hr.mono (by decide)) X.d_Eater_on.b .nil pass0 (pa_cons (pv 2) pa_nil)))) (pv 11) (nomark _)) (pw_or1 (pt_cmpR op_ne (pe_callB (QV.call_reprV hg hr.units hB) (by rfl) X.n_repr QV.bo_repr (pa_cons (pe_lst (pa_cons (pv 1) (pa_cons (pv 3) (pa_cons (pv 5) (pa_cons (pv 8) pa_nil))))) pa_nil)) (pv 9) (nomark _))))) (pss_one (ps_ret pe_bl)) pss_nil) (pss_cons (ps_set (i := 12) nd rfl (Or.inl rfl) (pe_lst (pa_cons pe_int (pa_cons pe_int (pa_cons (pe_ix (QB.ix_listK K) (pe_lst (pa_cons pe_int (pa_cons (pe_op op_add (pe_orT (pv 6) (pe_one pe_int)) pe_int) pa_nil))) (pe_callTy call_int1 (by rfl) X.n_int QB.bo_int (pa_cons (pe_cmpR (QB.op_neDK K hr.units) (pv 5) (pe_lst pa_nil) (nomark _)) pa_nil)) (fun _ _ => rfl)) (pa_cons pe_int (pa_cons pe_non (pa_cons (pe_op op_add (pv 7) pe_int) pa_nil)))))))) (pss_cons (ps_if (PW.pt (pw_or (pt_cmpR op_isN (pv 6) pe_non (nomark _)) (pw_or1 (pt_cmpR (QB.op_eqDK K hr.units) (pv 5) (pe_lst pa_nil) (nomark _))))) (pss_one (ps_asg pe_int (pg_sub (pv 12) pe_int set_list))) pss_nil) (pss_cons (ps_if (PW.pt (pw_or (pt_not (pt_cmpR (QO.op_eqO (ok_Eater___eq__ X) X.h_Eater___eq__ (hr.mono (by decide)) X.d_Eater___eq__.b pass0) (pe_ix (QB.ix_listK K) (pv 10) pe_int (fun _ _ => rfl)) (pe_call (ok_exchange X TB) (hr.mono (by decide)) rfl X.d_exchange.mg X.d_exchange.F.kp X.d_exchange.b .nil pass0 (pa_cons (pv 1) (pa_cons (QN.pe_turn K (pv 8)) pa_nil))) (nomark _))) (pw_or1 (pt_not (pt_cmpR (QO.op_eqO (ok_Eater___eq__ X) X.h_Eater___eq__ (hr.mono (by decide)) X.d_Eater___eq__.b pass0) (pe_ix (QB.ix_listK K) (pv 10) pe_int (fun _ _ => rfl)) (pe_call (ok_strip X TB) (hr.mono (by decide)) rfl X.d_strip.mg X.d_strip.F.kp X.d_strip.b .nil pass0 (pa_cons (pv 1) (pa_cons (QN.pe_turn K (pv 5)) (pa_cons (pv 6) pa_nil)))) (nomark _)))))) (pss_one (ps_ret pe_bl)) pss_nil) (pss_cons (ps_setLc (i := 13) (own := [("old", 14), ("new", 15)]) (g := gTup K 2 (gCons (gName 14) (gCons (gName 15) (gNil)))) rfl nd rfl rfl (sw_true rfl rfl rfl (by decide +kernel)) (QB.pi_listK K (pv 8)) (blkOk_by (N := ["pile", "tags", "subject", "word", "tag", "some", "most", "often", "pairs", "before", "made_v", "due", "sizes", "moved_v", "old", "new", "eater"]) (sc := defScope s__law_ones_right) (by decide +kernel)) (fun _ _ _ _ _ => pg_tup (by rfl) (pgs_cons (pg_name (i := 14) nd rfl (Or.inl rfl)) (pgs_cons (pg_name (i := 15) nd rfl (Or.inl rfl)) (pgs_nil)))) (fun _ _ _ _ _ => pts_one (pt_cmpR op_ne (pv 14) (pv 15) (nomark _))) (fun _ _ _ _ _ => (pv 15))) (pss_cons (ps_asg (pe_op op_add pe_int (QZ.pe_many rfl (by rfl) X.n_len (by rfl) X.n_set (pv 13))) (pg_sub (pv 12) pe_int set_list)) (pss_cons (ps_if (PW.pt (pw_or (pt_cmpR (QB.op_neDK K hr.units) (pe_lc (own := [("eater", 16)]) (g := gName 16) (tt := tYes) rfl nd (QB.pi_listK K (pv 10)) (blkOk_by (N := ["pile", "tags", "subject", "word", "tag", "some", "most", "often", "pairs", "before", "made_v", "due", "sizes", "moved_v", "old", "new", "eater"]) (sc := defScope s__law_ones_right) (by decide +kernel)) (fun _ _ _ _ _ => pg_name (i := 16) nd rfl (Or.inl rfl)) (fun _ _ _ _ _ => pts_nil) (fun _ _ _ _ _ => (pe_callB (QO.call_lenO (ok_Eater___len__ X) X.h_Eater___len__ (hr.mono (by decide)) X.d_Eater___len__.b pass0) (by rfl) X.n_len PySem.boot_len (pa_cons (pv 16) pa_nil)))) (pv 12) (nomark _)) (pw_or1 (pt_cmpR (QB.op_neDK K hr.units) (pe_lc (own := [("eater", 16)]) (g := gName 16) (tt := tYes) rfl nd (QB.pi_listK K (pv 10)) (blkOk_by (N := ["pile", "tags", "subject", "word", "tag", "some", "most", "often", "pairs", "before", "made_v", "due", "sizes", "moved_v", "old", "new", "eater"]) (sc := defScope s__law_ones_right) (by decide +kernel)) (fun _ _ _ _ _ => pg_name (i := 16) nd rfl (Or.inl rfl)) (fun _ _ _ _ _ => pts_nil) (fun _ _ _ _ _ => (pe_meth0 (pv 16) X.cl_Eater X.h_Eater_tags (ok_Eater_tags X) (hr.mono (by decide)) X.d_Eater_tags.b .nil pass0))) (pe_op op_rep (pe_lst (pa_cons (pv 1) pa_nil)) pe_int) (nomark _))))) (pss_one (ps_ret pe_bl)) pss_nil) (pss_cons (ps_for PassesOwn.never rfl (QB.pi_listK K (pe_lst (pa_cons (pe_lst pa_nil) (pa_cons (pe_op op_rep (pe_lst (pa_cons (pv 4) pa_nil)) (pv 7)) (pa_cons (pe_op op_rep (pe_lst (pa_cons (pv 4) pa_nil)) (pe_op op_add (pv 7) pe_int)) pa_nil))))) (pg_name (i := 3) nd rfl (Or.inl rfl)) (pss_one (ps_if (pt_cmpR op_notN (pe_meth (pe_ix (QB.ix_listK K) (pv 10) pe_int (fun _ _ => rfl)) X.cl_Eater X.h_Eater_settled (ok_Eater_settled X) (hr.mono (by decide)) X.d_Eater_settled.b .nil pass0 (pa_cons (pv 3) pa_nil)) pe_non (nomark _)) (pss_one (ps_ret pe_bl)) pss_nil))) (pss_cons (ps_if (PW.pt (pw_and (pt_cmpR (QB.op_neDK K hr.units) (pv 5) (pe_lst pa_nil) (nomark _)) (pw_and1 (pt_cmpR op_gt (pe_ix (QB.ix_listK K) (pv 12) pe_int (fun _ _ => rfl)) pe_int (nomark _))))) (pss_one (ps_if (PW.pt (pw_or (pt_cmpR (QB.op_neDK K hr.units) (pe_meth (pe_ix (QB.ix_listK K) (pv 10) pe_int (fun _ _ => rfl)) X.cl_Eater X.h_Eater_settled (ok_Eater_settled X) (hr.mono (by decide)) X.d_Eater_settled.b .nil pass0 (pa_cons (pe_op op_rep (pe_slice (QB.sl_listK K) (pv 5) po_none (po_some pe_int)) (pv 6)) pa_nil)) (pe_lst pa_nil) (nomark _)) (pw_or1 (pt_cmpR op_notN (pe_meth (pe_ix (QB.ix_listK K) (pv 10) pe_int (fun _ _ => rfl)) X.cl_Eater X.h_Eater_settled (ok_Eater_settled X) (hr.mono (by decide)) X.d_Eater_settled.b .nil pass0 (pa_cons (pe_op op_rep (pe_slice (QB.sl_listK K) (pv 5) po_none (po_some pe_int)) (pe_op op_sub (pv 6) pe_int)) pa_nil)) pe_non (nomark _))))) (pss_one (ps_ret pe_bl)) pss_nil)) pss_nil) (pss_one (ps_ret (pe_and (pe_call (ok_is_settled X TB) (hr.mono (by decide)) rfl X.d_is_settled.mg X.d_is_settled.F.kp X.d_is_settled.b .nil pass0 (pa_cons (pe_ix (QB.ix_listK K) (pv 10) pe_int (fun _ _ => rfl)) pa_nil)) (pe_and (pe_call (ok_is_settled X TB) (hr.mono (by decide)) rfl X.d_is_settled.mg X.d_is_settled.F.kp X.d_is_settled.b .nil pass0 (pa_cons (pe_ix (QB.ix_listK K) (pv 10) pe_int (fun _ _ => rfl)) pa_nil)) (pe_one (pe_call (ok_is_settled X TB) (hr.mono (by decide)) rfl X.d_is_settled.mg X.d_is_settled.F.kp X.d_is_settled.b .nil pass0 (pa_cons (pe_ix (QB.ix_listK K) (pv 10) pe_int (fun _ _ => rfl)) pa_nil)))))))))))))))))))))))))))), ?_⟩
    try dsimp only [Cx.nox, Cx.wish, cxOf]
    have tpos := to.pos
    have v : Kv (Tof X) X.c_Eater H H p a [p] tags [] [] := Kv.start tb hp ha
    -- word
    refine ⟨_, rfl, _, rfl, p, a, tags, 8, rfl, by decide, v.pl, v.tag, to, fun wd q H1 hw hwl x1 p1 hq uq => ?_⟩
    have qp : q ≠ p := (v.pl.ne hq).symm
    have hc := pg_word x1 v.pl hc
    have v := v.draw x1 p1
    clear x1 p1 hq
    -- some
    refine ⟨_, rfl, _, rfl, ⟨_, SqL.of v.tag⟩, fun r hr => ?_⟩
    have rp : r ≠ p := (v.pl.ne hr).symm
    have sm := same_new (o := .lst []) hr
    have dc : c ≠ r := ne_of_none hc hr
    have dq : q ≠ r := ne_of_none uq hr
    refine lc_it (walk_listW (K := K) (a := a) (w := tags)) (fun i H' => Kv (Tof X) X.c_Eater H H' p a [r, p] tags [] [] ∧ WordAt H' c sub ∧ WordAt H' q wd ∧ ∃ sm : Word, WordAt H' r sm ∧ sm.Sublist (tags.take i))
      ⟨v.list hr, Same.word sm hc, Same.word sm uq, [], upd_same, List.nil_sublist _⟩ (fun i H' _ h => h.1.tag) ?_ ?_
    · rintro i x H2 H3 hi ⟨v2, c2, q2, ys, r2, sl⟩ ⟨y, hy, rfl, rfl⟩
      refine ⟨rfl, ?_⟩
      refine ⟨_, rfl, p, 2, rfl, by decide, by decide, v2.pl, fun r4 H4 _ x4 p4 => ?_⟩
      have c4 := pg_word x4 v2.pl c2
      have q4 := pg_word x4 v2.pl q2
      have y4 := pg_word x4 v2.pl r2
      have v4 := v2.draw x4 p4
      clear x4 p4
      refine ⟨rfl, _, rfl, ?_⟩
      generalize decide (_ = V.int 0) = bb
      cases bb
      · refine iteF ?_
        refine ⟨v4, c4, q4, ys, y4, ?_⟩
        rw [List.take_add_one]
        exact sl.trans (List.sublist_append_left _ _)
      · refine iteT ?_
        have := sl.length_le
        rw [List.length_take] at this
        refine ⟨_, rfl, _, y4, by rw [vS_len]; exact sz_lt (by omega), v4.put List.mem_cons_self rp, (upd_ne dc).trans c4, (upd_ne dq).trans q4, ys ++ [y], ?_, ?_⟩
        · unfold WordAt
          rw [upd_same, ← vS_append]
          rfl
        · rw [List.take_add_one, hy]
          exact sublist_snoc sl y
    rintro H2 ⟨v, hc, uq, sm, us, sl⟩
    rw [List.take_length] at sl
    have v := v.weak
    clear hr dc dq
    show tSeq _ _ _ (List.set _ 5 _) _
    -- some turned or not
    refine ⟨_, rfl, p, 2, rfl, by decide, by decide, v.pl, fun r3 H3 _ x3 p3 => ?_⟩
    have hc := pg_word x3 v.pl hc
    have uq := pg_word x3 v.pl uq
    have us := pg_word x3 v.pl us
    have v := v.draw x3 p3
    clear x3 p3
    refine ⟨rfl, _, rfl, ?_⟩
    refine ite_key (fun σ' H' => ∃ (s : Addr) (sm : Word), σ' = [some (.ref p), some (.ref a), some (.ref c), some (.ref q), none, some (.ref s), none, none, none, none, none, none, none, none, none, none, none] ∧ Kv (Tof X) X.c_Eater H H' p a [p] tags [] [] ∧ WordAt H' c sub ∧ WordAt H' q wd ∧ WordAt H' s sm ∧ s ≠ p ∧ sm.Nodup ∧ (∀ t ∈ sm, t ∈ tags) ∧ sm.length ≤ 4) ?_ (fun key _ => ?_) (fun key _ => ?_)
    rotate_left
    · refine ⟨_, rfl, r, _, rfl, SqL.of us, fun s hs => ?_⟩
      have sp : s ≠ p := (v.pl.ne hs).symm
      refine key _ _ ⟨s, sm.reverse, rfl, v.new hs, Same.word (same_new hs) hc, Same.word (same_new hs) uq, ?_, sp, List.pairwise_reverse.mpr ((to.nd.sublist sl).imp fun e => Ne.symm e), fun t ht => sl.subset (List.mem_reverse.mp ht), by rw [List.length_reverse]; exact Nat.le_trans sl.length_le tl4⟩
      unfold WordAt
      rw [upd_same]
      unfold vS
      rw [List.map_reverse]
    · exact key _ _ ⟨r, sm, rfl, v, hc, uq, us, rp, to.nd.sublist sl, fun t ht => sl.subset ht, Nat.le_trans sl.length_le tl4⟩
    clear v hc uq us sl rp
    rintro σ' H' ⟨s, sm, rfl, v, hc, uq, us, sp, smN, smI, sml⟩
    -- most
    refine ⟨_, rfl, p, 21, rfl, by decide, by decide, v.pl, fun m1 H4 hm1 x4 p4 => ?_⟩
    have hc := pg_word x4 v.pl hc
    have uq := pg_word x4 v.pl uq
    have us := pg_word x4 v.pl us
    have v := v.draw x4 p4
    clear x4 p4
    refine ⟨_, rfl, p, 3, rfl, by decide, by decide, v.pl, fun m2 H5 hm2 x5 p5 => ?_⟩
    have hc := pg_word x5 v.pl hc
    have uq := pg_word x5 v.pl uq
    have us := pg_word x5 v.pl us
    have v := v.draw x5 p5
    clear x5 p5
    refine ⟨by show 3 ≤ sizeLine; decide, fun l hl => ?_⟩
    have lp : l ≠ p := (v.pl.ne hl).symm
    have sn := same_new (o := .lst [V.non, .int (m1 : Int), .int (m2 : Int)]) hl
    have hc := Same.word sn hc
    have uq := Same.word sn uq
    have us := Same.word sn us
    have v := v.same sn
    have kl : upd H5 l (.lst [V.non, .int (m1 : Int), .int (m2 : Int)]) l = some (.lst [V.non, .int (m1 : Int), .int (m2 : Int)]) := upd_same
    generalize upd H5 l (.lst [V.non, .int (m1 : Int), .int (m2 : Int)]) = H6 at v hc uq us kl ⊢
    clear sn hl
    refine ⟨_, rfl, p, 3, rfl, by decide, by decide, v.pl, fun m3 H7 hm3 x7 p7 => ?_⟩
    have hc := pg_word x7 v.pl hc
    have uq := pg_word x7 v.pl uq
    have us := pg_word x7 v.pl us
    have kl := x7 _ _ (by simpa using lp) kl
    have v := v.draw x7 p7
    clear x7 p7
    obtain ⟨o, eo, ho⟩ : ∃ o : Option Nat, [V.non, .int (m1 : Int), .int (m2 : Int)][m3]? = some (noV o) ∧ ∀ n, o = some n → n ≤ 20 := by
      rcases (by omega : m3 = 0 ∨ m3 = 1 ∨ m3 = 2) with rfl | rfl | rfl
      · exact ⟨none, rfl, fun _ z => nomatch z⟩
      · exact ⟨some m1, rfl, fun n z => by cases z; omega⟩
      · exact ⟨some m2, rfl, fun n z => by cases z; omega⟩
    refine ⟨l, _, _, _, rfl, rfl, SqL.of kl, atI_nat eo, ?_⟩
    clear kl lp
    -- tag
    refine ⟨_, rfl, ?_⟩
    refine ⟨_, rfl, _, rfl, _, _, rfl, .inl (SqL.of v.tag), ?_⟩
    refine ⟨p, tags.length, by rw [vS_len]; rfl, by omega, by omega, v.pl, fun r8 H8 hr8 x8 p8 => ?_⟩
    have et : tags[r8]? = some (tags[r8]'hr8) := List.getElem?_eq_getElem hr8
    have htg : tags[r8]'hr8 ∈ tags := List.getElem_mem hr8
    generalize tags[r8]'hr8 = tg at et htg
    have hc := pg_word x8 v.pl hc
    have uq := pg_word x8 v.pl uq
    have us := pg_word x8 v.pl us
    have v := v.draw x8 p8
    clear x8 p8
    refine ⟨a, _, _, _, rfl, rfl, SqL.of v.tag, atI_nat (vS_get et), ?_⟩
    clear et
    -- often
    refine ⟨_, rfl, p, 21, rfl, by decide, by decide, v.pl, fun m1 H9 hm1 x9 p9 => ?_⟩
    have hc := pg_word x9 v.pl hc
    have uq := pg_word x9 v.pl uq
    have us := pg_word x9 v.pl us
    have v := v.draw x9 p9
    clear x9 p9
    refine ⟨_, rfl, p, 3, rfl, by decide, by decide, v.pl, fun m2 H10 hm2 x5 p5 => ?_⟩
    have hc := pg_word x5 v.pl hc
    have uq := pg_word x5 v.pl uq
    have us := pg_word x5 v.pl us
    have v := v.draw x5 p5
    clear x5 p5
    refine ⟨by show 2 ≤ sizeLine; decide, fun l hl => ?_⟩
    have lp : l ≠ p := (v.pl.ne hl).symm
    have sn := same_new (o := .lst [V.int (m1 : Int), .int (m2 : Int)]) hl
    have hc := Same.word sn hc
    have uq := Same.word sn uq
    have us := Same.word sn us
    have v := v.same sn
    have kl : upd H10 l (.lst [V.int (m1 : Int), .int (m2 : Int)]) l = some (.lst [V.int (m1 : Int), .int (m2 : Int)]) := upd_same
    generalize upd H10 l (.lst [V.int (m1 : Int), .int (m2 : Int)]) = H11 at v hc uq us kl ⊢
    clear sn hl
    refine ⟨_, rfl, p, 2, rfl, by decide, by decide, v.pl, fun m3 H12 hm3 x7 p7 => ?_⟩
    have hc := pg_word x7 v.pl hc
    have uq := pg_word x7 v.pl uq
    have us := pg_word x7 v.pl us
    have kl := x7 _ _ (by simpa using lp) kl
    have v := v.draw x7 p7
    clear x7 p7
    obtain ⟨of, eo, hof⟩ : ∃ of : Nat, [V.int (m1 : Int), .int (m2 : Int)][m3]? = some (.int (of : Int)) ∧ of ≤ 20 := by
      rcases (by omega : m3 = 0 ∨ m3 = 1) with rfl | rfl
      · exact ⟨m1, rfl, by omega⟩
      · exact ⟨m2, rfl, by omega⟩
    refine ⟨l, _, _, _, rfl, rfl, SqL.of kl, atI_nat eo, ?_⟩
    clear kl lp eo
    -- pairs
    refine ⟨_, rfl, ?_⟩
    refine ⟨_, _, rfl, SqL.of v.tag, fun u hu => ?_⟩
    have sn := same_new (o := .lst (vS tags).reverse) hu
    have up : u ≠ p := (v.pl.ne hu).symm
    have hc := Same.word sn hc
    have uq := Same.word sn uq
    have us := Same.word sn us
    have v := v.same sn
    have ku : WordAt (upd H12 u (.lst (vS tags).reverse)) u tags.reverse := by
      unfold WordAt
      rw [upd_same]
      unfold vS
      rw [List.map_reverse]
    generalize upd H12 u (.lst (vS tags).reverse) = H13 at v hc uq us ku ⊢
    clear sn hu
    refine ⟨_, rfl, ⟨_, SqL.of ku⟩, fun r hr => ?_⟩
    have rp : r ≠ p := (v.pl.ne hr).symm
    have sn := same_new (o := .lst []) hr
    have dc : c ≠ r := ne_of_none hc hr
    have dq : q ≠ r := ne_of_none uq hr
    have ds : s ≠ r := ne_of_none us hr
    have du : u ≠ r := ne_of_none ku hr
    refine lc_it (walk_listW (K := K) (a := u) (w := tags.reverse)) (fun i H' => Kv (Tof X) X.c_Eater H H' p a [r, p] tags [] [] ∧ WordAt H' u tags.reverse ∧ WordAt H' c sub ∧ WordAt H' q wd ∧ WordAt H' s sm ∧ ∃ (ts : List Addr) (ps : List (Str × Str)), H' r = some (.lst (ts.map V.ref)) ∧ Paired (fun t p => H' t = some (.tup [.str p.1, .str p.2])) ts ps ∧ (ps.map (·.1)).Sublist (tags.reverse.take i) ∧ ∀ z ∈ ps, z.2 ∈ tags)
      ⟨v.list hr, Same.word sn ku, Same.word sn hc, Same.word sn uq, Same.word sn us, [], [], upd_same, .nil, List.nil_sublist _, fun _ h => nomatch h⟩ (fun i H' _ h => h.2.1) ?_ ?_
    · rintro i x H2 H3 hi ⟨v2, u2, c2, q2, s2, ts, ps, r2, t2, sl, ins⟩ ⟨y, hy, rfl, rfl⟩
      refine ⟨rfl, ?_⟩
      have drawT : ∀ {H4 : Hp}, Exc [p] H3 H4 → Paired (fun t (p : Str × Str) => H4 t = some (.tup [.str p.1, .str p.2])) ts ps := fun {H4} x => L2.Paired.mapP t2 fun z _ h => x _ _ (fun e => by
        obtain ⟨_, _, _, y⟩ := v2.pl
        rw [List.mem_singleton.mp e, y] at h
        cases h) h
      refine ⟨_, rfl, p, 3, rfl, by decide, by decide, v2.pl, fun r4 H4 _ x4 p4 => ?_⟩
      have u4 := pg_word x4 v2.pl u2
      have c4 := pg_word x4 v2.pl c2
      have q4 := pg_word x4 v2.pl q2
      have s4 := pg_word x4 v2.pl s2
      have k4 := x4 _ _ (by simpa using rp) r2
      have t4 := drawT x4
      have v4 := v2.draw x4 p4
      clear x4 p4 drawT t2 r2 s2 q2 c2 u2 v2
      refine ⟨_, _, rfl, rfl, _, rfl, ?_⟩
      generalize decide (_ > (0 : Int)) = bb
      cases bb
      · refine iteF ?_
        refine ⟨v4, u4, c4, q4, s4, ts, ps, k4, t4, ?_, ins⟩
        rw [List.take_add_one]
        exact sl.trans (List.sublist_append_left _ _)
      · refine iteT ?_
        refine ⟨_, rfl, _, rfl, ?_⟩
        refine ⟨_, rfl, _, rfl, _, _, rfl, .inl (SqL.of v4.tag), ?_⟩
        refine ⟨p, tags.length, by rw [vS_len]; rfl, by omega, by omega, v4.pl, fun r5 H5 hr5 x5 p5 => ?_⟩
        have et : tags[r5]? = some (tags[r5]'hr5) := List.getElem?_eq_getElem hr5
        have hnw : tags[r5]'hr5 ∈ tags := List.getElem_mem hr5
        generalize tags[r5]'hr5 = nw at et hnw
        have u5 := pg_word x5 v4.pl u4
        have c5 := pg_word x5 v4.pl c4
        have q5 := pg_word x5 v4.pl q4
        have s5 := pg_word x5 v4.pl s4
        have k5 := x5 _ _ (by simpa using rp) k4
        have t5 : Paired (fun t (p : Str × Str) => H5 t = some (.tup [.str p.1, .str p.2])) ts ps := L2.Paired.mapP t4 fun z _ h => x5 _ _ (fun e => by
          obtain ⟨_, _, _, y⟩ := v4.pl
          rw [List.mem_singleton.mp e, y] at h
          cases h) h
        have v5 := v4.draw x5 p5
        clear x5 p5 u4 c4 q4 s4 k4 t4 v4
        refine ⟨a, _, _, _, rfl, rfl, SqL.of v5.tag, atI_nat (vS_get et), ?_⟩
        refine ⟨by show 2 ≤ sizeLine; decide, fun tp htp => ?_⟩
        have sn := same_new (o := .tup [V.str y, .str nw]) htp
        have k6 : upd H5 tp (.tup [V.str y, .str nw]) tp = some (.tup [V.str y, .str nw]) := upd_same
        have v6 := v5.same sn
        have u6 := Same.word sn u5
        have c6 := Same.word sn c5
        have q6 := Same.word sn q5
        have s6 := Same.word sn s5
        have r6 := sn _ _ k5
        have t6 := L2.Paired.mapP t5 fun _ _ h => sn _ _ h
        generalize upd H5 tp (.tup [V.str y, .str nw]) = H6 at sn k6 v6 u6 c6 q6 s6 r6 t6 ⊢
        have := sl.length_le
        rw [List.length_take, List.length_reverse, List.length_map] at this
        refine ⟨_, r6, by rw [List.length_map, Paired.length t6]; exact sz_lt (by omega), v6.put List.mem_cons_self rp, (upd_ne du).trans u6, (upd_ne dc).trans c6, (upd_ne dq).trans q6, (upd_ne ds).trans s6, ts ++ [tp], ps ++ [(y, nw)], ?_, ?_, ?_, ?_⟩
        · rw [upd_same, List.map_append]
          rfl
        · refine Paired.snoc (L2.Paired.mapP t6 fun c _ h => (upd_ne (ne_of h r6 (fun z => nomatch z))).trans h) ?_
          exact (upd_ne (ne_of k6 r6 (fun z => nomatch z))).trans k6
        · rw [List.take_add_one, hy, List.map_append]
          exact sublist_snoc sl y
        · intro z hz
          rcases List.mem_append.mp hz with hz | hz
          · exact ins z hz
          · rw [List.mem_singleton.mp hz]
            exact hnw
    rintro Hb ⟨v, _, hc, uq, us, ts, ps, ur, ut, sl, ins⟩
    rw [List.take_length] at sl
    have v := v.weak
    have ndp := List.Pairwise.sublist sl (List.pairwise_reverse.mpr (to.nd.imp fun e => Ne.symm e))
    have inp : ∀ z ∈ ps, z.1 ∈ tags ∧ z.2 ∈ tags := fun z hz => ⟨List.mem_reverse.mp (sl.subset (List.mem_map_of_mem hz)), ins z hz⟩
    have pl4 : ps.length ≤ 4 := by
      have := sl.length_le
      rw [List.length_map, List.length_reverse] at this
      omega
    have ne_p : ∀ {z : Addr} {wz : Word}, WordAt Hb z wz → z ≠ p := fun {z wz} h e => v.pl.word h e
    have x : Kx Hb p c q s r sub wd sm ps := ⟨hideT_at (by simpa using ne_p hc) hc, hideT_at (by simpa using qp) uq, hideT_at (by simpa using sp) us, hide_pairs v.pl rp ⟨ts, ur, ut⟩⟩
    clear ur ut sl ins dc dq ds du ku up hr hc uq us sn
    have kk : ∀ H', Same (hideT [p] Hb) (hideT [p] H') → PileAt H' p → Tabs (Tof X) H' → Q (.bl true) H' := fun H' h => k H' (v.ba.trans h)
    have v : Kv (Tof X) X.c_Eater Hb Hb p a [p] tags [] [] := Kv.start v.tb v.pl v.tag
    clear k
    -- before
    show tSeq _ _ _ (List.set _ 8 _) _
    refine ⟨_, rfl, _, rfl, _, rfl, _, rfl, by show 4 ≤ sizeLine; decide, fun e he => ?_⟩
    have v := v.new (o := .lst [V.ref a, .ref q, .ref s, .ref r]) he
    have ke : upd Hb e (.lst [V.ref a, .ref q, .ref s, .ref r]) e = some (.lst [V.ref a, .ref q, .ref s, .ref r]) := upd_same
    generalize upd Hb e (.lst [V.ref a, .ref q, .ref s, .ref r]) = H1 at v ke ⊢
    have shw := shows_all (tags := tags) (wd := wd) (sm := sm) (ps := ps) to tl4 hw hwl smI sml inp pl4
    refine ⟨_, _, e, rfl, rfl, dv_all ke v.tag (x.q_ v) (x.s_ v) (x.r_ v), shw, ?_⟩
    clear ke he
    -- made
    refine ⟨_, rfl, a, tags, rfl, v.tag, to, v.tb, fun e1 _ _ _ _ H21 g _ m => ?_⟩
    have v := v.add (F := putF tags []) g m
    clear g m
    refine ⟨_, rfl, _, rfl, a, q, tags, wd, rfl, v.tag, x.q_ v, to, hw, hwl, v.tb, fun e2 _ _ _ _ H22 g _ m => ?_⟩
    have v := v.add (F := putF tags wd) g m
    clear g m
    refine ⟨_, rfl, _, rfl, _, rfl, a, s, tags, sm, o, rfl, v.tag, x.s_ v, to, smN, smI, ho, v.tb, fun e3 _ _ _ _ H23 g _ m => ?_⟩
    have v := v.add (F := stripForm tags sm o) g m
    clear g m
    refine ⟨_, rfl, _, rfl, a, tags, tg, rfl, v.tag, to, htg, v.tb, fun e4 _ _ _ _ H24 g _ m => ?_⟩
    have v := v.add (F := onceForm tags tg) g m
    clear g m
    refine ⟨_, rfl, _, rfl, a, r, tags, ps, rfl, v.tag, x.r_ v, to, ndp, inp, (by omega), v.tb, fun e5 _ _ _ _ H25 g _ m => ?_⟩
    have v := v.add (F := exForm tags ps) g m
    clear g m
    refine ⟨by show 5 ≤ sizeLine; decide, fun l hl => ?_⟩
    have lp : l ≠ p := (v.pl.ne hl).symm
    have v := v.list (xs := [V.ref e1, .ref e2, .ref e3, .ref e4, .ref e5]) hl
    have kl : upd H25 l (.lst [V.ref e1, .ref e2, .ref e3, .ref e4, .ref e5]) l = some (.lst [V.ref e1, .ref e2, .ref e3, .ref e4, .ref e5]) := upd_same
    generalize upd H25 l (.lst [V.ref e1, .ref e2, .ref e3, .ref e4, .ref e5]) = H26 at v kl ⊢
    clear hl
    refine ⟨_, rfl, .inl ⟨rfl, _, SqL.of kl⟩, ?_⟩
    refine ⟨_, rfl, _, rfl, _, rfl, a, tags, tg, of, rfl, v.tag, to, htg, hof, v.tb, fun e6 _ _ _ _ H27 g _ m => ?_⟩
    have v := v.add (F := pressForm tags tg of) g m
    have kl := g.lst kl
    clear g m
    refine ⟨l, _, _, rfl, rfl, kl, by show 5 < sizeLine; decide, ?_⟩
    have v := v.put (ys := [V.ref e1, .ref e2, .ref e3, .ref e4, .ref e5, .ref e6]) List.mem_cons_self lp
    have kl : upd H27 l (.lst [V.ref e1, .ref e2, .ref e3, .ref e4, .ref e5, .ref e6]) l = some (.lst [V.ref e1, .ref e2, .ref e3, .ref e4, .ref e5, .ref e6]) := upd_same
    show tSeq _ _ _ _ (upd H27 l (.lst [V.ref e1, .ref e2, .ref e3, .ref e4, .ref e5, .ref e6]))
    generalize upd H27 l (.lst [V.ref e1, .ref e2, .ref e3, .ref e4, .ref e5, .ref e6]) = H28 at v kl ⊢
    -- due
    refine ⟨_, rfl, _, rfl, _, rfl, q, c, _, _, rfl, rfl, x.q_ v, x.c_ v, by rw [vS_len, vS_len]; exact Nat.le_of_lt (sz_lt (by omega)), fun z1 hz => ?_⟩
    rw [vS_append]
    have sn := same_new (o := .lst (vS (wd ++ sub))) hz
    have v := v.same sn
    have kl := sn _ _ kl
    have wz1 : WordAt (upd H28 z1 (.lst (vS (wd ++ sub)))) z1 (wd ++ sub) := upd_same
    generalize upd H28 z1 (.lst (vS (wd ++ sub))) = H29 at v kl wz1 ⊢
    clear sn hz
    refine ⟨_, rfl, _, rfl, _, rfl, c, s, sub, sm, o, rfl, x.c_ v, x.s_ v, fun z2 hz => ?_⟩
    have sn := same_new (o := .lst (vS (sub.drop (cnt sm o sub)))) hz
    have v := v.same sn
    have kl := sn _ _ kl
    have wz1 := Same.word sn wz1
    have wz2 : WordAt (upd H29 z2 (.lst (vS (sub.drop (cnt sm o sub))))) z2 (sub.drop (cnt sm o sub)) := upd_same
    generalize upd H29 z2 (.lst (vS (sub.drop (cnt sm o sub)))) = H30 at v kl wz1 wz2 ⊢
    clear sn hz
    refine ⟨_, rfl, by show 1 ≤ sizeLine; decide, fun z3 hz => ?_⟩
    have sn := same_new (o := .lst [V.str tg]) hz
    have v := v.same sn
    have kl := sn _ _ kl
    have wz1 := Same.word sn wz1
    have wz2 := Same.word sn wz2
    have wz3 : WordAt (upd H30 z3 (.lst [V.str tg])) z3 ([tg]) := upd_same
    generalize upd H30 z3 (.lst [V.str tg]) = H31 at v kl wz1 wz2 wz3 ⊢
    clear sn hz
    refine ⟨_, rfl, _, rfl, by show 1 ≤ sizeLine; decide, fun z4 hz => ?_⟩
    have sn := same_new (o := .lst [V.str tg]) hz
    have v := v.same sn
    have kl := sn _ _ kl
    have wz1 := Same.word sn wz1
    have wz2 := Same.word sn wz2
    have wz3 := Same.word sn wz3
    have wz4 : WordAt (upd H31 z4 (.lst [V.str tg])) z4 ([tg]) := upd_same
    generalize upd H31 z4 (.lst [V.str tg]) = H32 at v kl wz1 wz2 wz3 wz4 ⊢
    clear sn hz
    refine ⟨c, z4, sub, [tg], some 1, rfl, x.c_ v, wz4, fun z5 hz => ?_⟩
    have sn := same_new (o := .lst (vS (sub.drop (cnt [tg] (some 1) sub)))) hz
    have v := v.same sn
    have kl := sn _ _ kl
    have wz1 := Same.word sn wz1
    have wz2 := Same.word sn wz2
    have wz3 := Same.word sn wz3
    have wz4 := Same.word sn wz4
    have wz5 : WordAt (upd H32 z5 (.lst (vS (sub.drop (cnt [tg] (some 1) sub))))) z5 (sub.drop (cnt [tg] (some 1) sub)) := upd_same
    generalize upd H32 z5 (.lst (vS (sub.drop (cnt [tg] (some 1) sub)))) = H33 at v kl wz1 wz2 wz3 wz4 wz5 ⊢
    clear sn hz
    refine ⟨z3, z5, _, _, rfl, rfl, wz3, wz5, by rw [vS_len, vS_len, List.length_drop]; exact Nat.le_of_lt (sz_lt (by show 1 + _ < _; omega)), fun z6 hz => ?_⟩
    rw [vS_append]
    have sn := same_new (o := .lst (vS ([tg] ++ sub.drop (cnt [tg] (some 1) sub)))) hz
    have v := v.same sn
    have kl := sn _ _ kl
    have wz1 := Same.word sn wz1
    have wz2 := Same.word sn wz2
    have wz3 := Same.word sn wz3
    have wz4 := Same.word sn wz4
    have wz5 := Same.word sn wz5
    have wz6 : WordAt (upd H33 z6 (.lst (vS ([tg] ++ sub.drop (cnt [tg] (some 1) sub))))) z6 ([tg] ++ sub.drop (cnt [tg] (some 1) sub)) := upd_same
    generalize upd H33 z6 (.lst (vS ([tg] ++ sub.drop (cnt [tg] (some 1) sub)))) = H34 at v kl wz1 wz2 wz3 wz4 wz5 wz6 ⊢
    clear sn hz
    clear wz3 wz4 wz5
    refine ⟨by show 4 ≤ sizeLine; decide, fun d1 hd => ?_⟩
    have sn := same_new (o := .lst [V.ref c, .ref z1, .ref z2, .ref z6]) hd
    have v := v.same sn
    have kl := sn _ _ kl
    have wz1 := Same.word sn wz1
    have wz2 := Same.word sn wz2
    have wz6 := Same.word sn wz6
    have kd : upd H34 d1 (.lst [V.ref c, .ref z1, .ref z2, .ref z6]) d1 = some (.lst [V.ref c, .ref z1, .ref z2, .ref z6]) := upd_same
    generalize upd H34 d1 (.lst [V.ref c, .ref z1, .ref z2, .ref z6]) = H35 at v kl kd wz1 wz2 wz6 ⊢
    clear sn hd
    refine ⟨_, rfl, ?_⟩
    refine ⟨_, rfl, _, rfl, c, r, sub, ps, rfl, x.c_ v, x.r_ v, ndp, (fun t ht => (to.names t (hsub t ht)).txt), (fun z hz => (to.names _ (inp z hz).1).txt), by omega, fun z7 H36 sn wz7 => ?_⟩
    have v := v.same sn
    have kl := sn _ _ kl
    have kd := sn _ _ kd
    have wz1 := Same.word sn wz1
    have wz2 := Same.word sn wz2
    have wz6 := Same.word sn wz6
    clear sn
    refine ⟨_, rfl, _, rfl, _, rfl, c, sub, tg, of, rfl, x.c_ v, fun z8 H37 sn _ wz8 => ?_⟩
    have v := v.same sn
    have kl := sn _ _ kl
    have kd := sn _ _ kd
    have wz1 := Same.word sn wz1
    have wz2 := Same.word sn wz2
    have wz6 := Same.word sn wz6
    have wz7 := Same.word sn wz7
    clear sn
    refine ⟨by show 2 ≤ sizeLine; decide, fun d2 hd => ?_⟩
    have sn := same_new (o := .lst [V.ref z7, .ref z8]) hd
    have v := v.same sn
    have kl := sn _ _ kl
    have kd := sn _ _ kd
    have wz1 := Same.word sn wz1
    have wz2 := Same.word sn wz2
    have wz6 := Same.word sn wz6
    have wz7 := Same.word sn wz7
    have wz8 := Same.word sn wz8
    have kd2 : upd H37 d2 (.lst [V.ref z7, .ref z8]) d2 = some (.lst [V.ref z7, .ref z8]) := upd_same
    generalize upd H37 d2 (.lst [V.ref z7, .ref z8]) = H38 at v kl kd kd2 wz1 wz2 wz6 wz7 wz8 ⊢
    clear sn hd
    refine ⟨d1, d2, _, _, rfl, rfl, kd, kd2, by show 6 ≤ sizeLine; decide, fun d hd => ?_⟩
    have dp : d ≠ p := (v.pl.ne hd).symm
    have sn := same_new (o := .lst [V.ref c, .ref z1, .ref z2, .ref z6, .ref z7, .ref z8]) hd
    have v := v.same sn
    have kl := sn _ _ kl
    have kd := sn _ _ kd
    have wz1 := Same.word sn wz1
    have wz2 := Same.word sn wz2
    have wz6 := Same.word sn wz6
    have wz7 := Same.word sn wz7
    have wz8 := Same.word sn wz8
    have kd3 : upd H38 d (.lst [V.ref c, .ref z1, .ref z2, .ref z6, .ref z7, .ref z8]) d = some (.lst [V.ref c, .ref z1, .ref z2, .ref z6, .ref z7, .ref z8]) := upd_same
    show tSeq _ _ _ _ (upd H38 d (.lst [V.ref c, .ref z1, .ref z2, .ref z6, .ref z7, .ref z8]))
    generalize upd H38 d (.lst [V.ref c, .ref z1, .ref z2, .ref z6, .ref z7, .ref z8]) = Hd at v kl kd3 wz1 wz2 wz6 wz7 wz8 ⊢
    clear sn hd kd kd2
    -- from here on nothing of this changes
    have x := x.re v
    have kk : ∀ H', Same (hideT [p] Hd) (hideT [p] H') → PileAt H' p → Tabs (Tof X) H' → Q (.bl true) H' := fun H' h => kk H' (v.ba.trans h)
    have kl : hideT [p] Hd l = some (.lst ([e1, e2, e3, e4, e5, e6].map V.ref)) := hideT_at (by simpa using lp) kl
    have kd : hideT [p] Hd d = some (.lst ([c, z1, z2, z6, z7, z8].map V.ref)) := hideT_at (by simpa using dp) kd3
    have kw : Paired (fun z w => WordAt (hideT [p] Hd) z w) [c, z1, z2, z6, z7, z8] [sub, wd ++ sub, sub.drop (cnt sm o sub), [tg] ++ sub.drop (cnt [tg] (some 1) sub), exch ps sub, sub.drop (cnt [tg] none sub - of)] :=
      .cons x.c (.cons (v.hid wz1) (.cons (v.hid wz2) (.cons (v.hid wz6) (.cons (v.hid wz7) (.cons (v.hid wz8) .nil)))))
    have v : Kv (Tof X) X.c_Eater Hd Hd p a [p] tags [e1, e2, e3, e4, e5, e6] [putF tags [], putF tags wd, stripForm tags sm o, onceForm tags tg, exForm tags ps, pressForm tags tg of] := v.rebase
    clear kd3 lp dp wz1 wz2 wz6 wz7 wz8
    have mk0 := mk_keep to
    have mk1 := mk_put to hw hwl
    have mk2 : Mk tags (stripForm tags sm o) _ := mk_strip to ho
    have mk3 := mk_once to htg
    have mk4 : Mk tags (exForm tags ps) _ := mk_ex to ndp inp (by omega)
    have mk5 := mk_press to htg hof
    have mkL : Paired (fun F w => ∃ f, Mk tags F f ∧ f sub = w) [putF tags [], putF tags wd, stripForm tags sm o, onceForm tags tg, exForm tags ps, pressForm tags tg of] [sub, wd ++ sub, sub.drop (cnt sm o sub), [tg] ++ sub.drop (cnt [tg] (some 1) sub), exch ps sub, sub.drop (cnt [tg] none sub - of)] :=
      .cons ⟨_, mk0, rfl⟩ (.cons ⟨_, mk1, rfl⟩ (.cons ⟨_, mk2, rfl⟩ (.cons ⟨_, mk3, rfl⟩ (.cons ⟨_, mk4, rfl⟩ (.cons ⟨_, mk5, rfl⟩ .nil)))))
    have okW : ∀ w ∈ [sub, wd ++ sub, sub.drop (cnt sm o sub), [tg] ++ sub.drop (cnt [tg] (some 1) sub), exch ps sub, sub.drop (cnt [tg] none sub - of)], OkWord w := fun w hw => by
      obtain ⟨j, hj⟩ := List.getElem?_of_mem hw
      obtain ⟨F, hF, f, m, e⟩ := paired_get mkL hj
      rw [← e, ← m.on hsub]
      exact fun t ht => (to.names t (make_sub m.w hsub t ht)).txt
    -- what is made of the subject
    refine ⟨_, rfl, _, rfl, ⟨_, SqL.of (hideT_sub _ _ (v.ba _ _ kl))⟩, fun D hD => ?_⟩
    have Dp_ : D ≠ p := (v.pl.ne hD).symm
    refine lc_it (walk_list (K := K) (a := l) (xs := [e1, e2, e3, e4, e5, e6].map V.ref)) (fun i H' => Kv (Tof X) X.c_Eater Hd H' p a [D, p] tags [e1, e2, e3, e4, e5, e6] [putF tags [], putF tags wd, stripForm tags sm o, onceForm tags tg, exForm tags ps, pressForm tags tg of] ∧ ∃ os : List Addr, D ∉ os ∧ H' D = some (.lst (os.map V.ref)) ∧ Paired (fun z w => WordAt H' z w) os ([sub, wd ++ sub, sub.drop (cnt sm o sub), [tg] ++ sub.drop (cnt [tg] (some 1) sub), exch ps sub, sub.drop (cnt [tg] none sub - of)].take i))
      ⟨v.list hD, [], (fun h => nomatch h), upd_same, .nil⟩ (fun i H' _ h => SqL.of (hideT_sub _ _ (h.1.ba _ _ kl))) ?_ ?_
    · rintro i y H2 H3 hi ⟨v2, os, nD, k2, t2⟩ ⟨rfl, hy⟩
      have hi : i < 6 := hi
      have ei : [e1, e2, e3, e4, e5, e6][i]? = some ([e1, e2, e3, e4, e5, e6][i]'hi) := List.getElem?_eq_getElem _
      generalize [e1, e2, e3, e4, e5, e6][i]'hi = e at ei
      rw [List.getElem?_map, ei] at hy
      cases hy
      obtain ⟨F, eF, hE⟩ := paired_get' v2.ev ei
      obtain ⟨wj, ew, f, m, ef⟩ := paired_get' mkL eF
      have E1 : EatAt X.c_Eater H3 e tags (least tags F) := hE.ext (T := []) (.of hideT_sub)
      have E1' := E1
      obtain ⟨dx, xa, xb, i1, i2, i3⟩ := E1
      refine ⟨rfl, ?_⟩
      refine ⟨_, rfl, e, dx, _, rfl, i1, rfl, _, rfl, ?_⟩
      refine ⟨e, c, tags, least tags F, sub, rfl, E1', x.c_ v2, m.good, hsub, by omega, fun s hs => by have := m.wl2 s hs; omega, fun z H4 s4 n4 h4 => ?_⟩
      rw [m.on hsub, ef] at h4
      have v4 := v2.same s4
      have k4 := s4 _ _ k2
      have t4 := L2.Paired.mapP t2 fun _ _ h => Same.word s4 h
      have nz : z ≠ D := fun e => by rw [e] at n4; rw [n4] at k2; cases k2
      refine ⟨_, k4, by rw [List.length_map, Paired.length t4, List.length_take]; exact sz_lt (by omega), v4.put List.mem_cons_self Dp_, os ++ [z], fun h => (List.mem_append.mp h).elim nD fun h => nz (List.mem_singleton.mp h).symm, ?_, ?_⟩
      · rw [upd_same, List.map_append]
        rfl
      · rw [List.take_add_one, ew]
        exact Paired.snoc (paired_mem t4 fun b _ hb h => (upd_ne (fun e : b = D => nD (by rw [← e]; exact hb))).trans h) ((upd_ne nz).trans h4)
    rintro H2 ⟨v, os, _, k2, t2⟩
    have t2 : Paired (fun z w => WordAt H2 z w) os [sub, wd ++ sub, sub.drop (cnt sm o sub), [tg] ++ sub.drop (cnt [tg] (some 1) sub), exch ps sub, sub.drop (cnt [tg] none sub - of)] := t2
    refine ⟨_, rfl, ?_⟩
    refine ne_wds k2 t2 (hideT_sub _ _ (v.ba _ _ kd)) (L2.Paired.mapP kw fun _ _ h => Same.word hideT_sub (Same.word v.ba h)) okW ⟨_, rfl, ?_⟩
    refine iteF ?_
    clear k2 t2
    refine ⟨_, rfl, _, rfl, _, rfl, _, rfl, by show 4 ≤ sizeLine; decide, fun e he => ?_⟩
    have v := v.new (o := .lst [V.ref a, .ref q, .ref s, .ref r]) he
    have ke : upd H2 e (.lst [V.ref a, .ref q, .ref s, .ref r]) e = some (.lst [V.ref a, .ref q, .ref s, .ref r]) := upd_same
    generalize upd H2 e (.lst [V.ref a, .ref q, .ref s, .ref r]) = H3 at v ke ⊢
    refine ⟨_, _, e, rfl, rfl, dv_all ke v.tag (x.q_ v) (x.s_ v) (x.r_ v), shw, ?_⟩
    clear ke he
    refine ⟨_, rfl, ?_⟩
    refine ⟨by rfl, _, rfl, ?_⟩
    rw [decide_eq_true rfl]
    refine iteF ?_
    clear shw okW
    -- sizes
    refine ⟨_, rfl, ?_⟩
    refine or_zero ?_
    refine ⟨_, _, rfl, rfl, by show 2 ≤ sizeLine; decide, fun y1 hy1 => ?_⟩
    have v := v.new (o := .lst [V.int 1, .int (((o.getD 0 : Nat) : Int) + 1)]) hy1
    have k1 : upd H3 y1 (.lst [V.int 1, .int (((o.getD 0 : Nat) : Int) + 1)]) y1 = some (.lst [V.int 1, .int (((o.getD 0 : Nat) : Int) + 1)]) := upd_same
    generalize upd H3 y1 (.lst [V.int 1, .int (((o.getD 0 : Nat) : Int) + 1)]) = H4 at v k1 ⊢
    refine ⟨_, rfl, by show 0 ≤ sizeLine; decide, fun y2 hy2 => ?_⟩
    have v := v.new (o := .lst []) hy2
    have k2 : WordAt (upd H4 y2 (.lst [])) y2 [] := upd_same
    have k1 := same_new (o := .lst []) hy2 _ _ k1
    generalize upd H4 y2 (.lst []) = H5 at v k1 k2 ⊢
    refine ne_words (x.s_ v) k2 (fun t ht => (to.names t (smI t ht)).txt) (fun _ h => nomatch h) ?_
    refine .inr ⟨_, rfl, ?_⟩
    obtain ⟨A2, hA2, eA2⟩ : ∃ A2 : Nat, [V.int 1, .int (((o.getD 0 : Nat) : Int) + 1)][if sm = [] then 0 else 1]? = some (.int (A2 : Int)) ∧ A2 = if sm = [] then 1 else o.getD 0 + 1 := by
      by_cases z : sm = []
      · rw [if_pos z, if_pos z]
        exact ⟨1, rfl, rfl⟩
      · rw [if_neg z, if_neg z]
        exact ⟨o.getD 0 + 1, rfl, rfl⟩
    rw [show (if (!decide (sm = [])) = true then (1 : Int) else 0) = (((if sm = [] then 0 else 1 : Nat)) : Int) by by_cases z : sm = [] <;> simp [z]]
    refine ⟨y1, _, _, _, rfl, rfl, SqL.of k1, atI_nat hA2, ?_⟩
    clear k1 k2 hy1 hy2 hA2
    refine ⟨_, rfl, _, _, rfl, rfl, ?_⟩
    refine ⟨by show 6 ≤ sizeLine; decide, fun sz hz => ?_⟩
    have zp : sz ≠ p := (v.pl.ne hz).symm
    have v := v.list (xs := [V.int 1, .int 1, .int (A2 : Int), .int 2, .non, .int ((of : Int) + 1)]) hz
    have kz : upd H5 sz (.lst [V.int 1, .int 1, .int (A2 : Int), .int 2, .non, .int ((of : Int) + 1)]) sz = some (.lst [V.int 1, .int 1, .int (A2 : Int), .int 2, .non, .int ((of : Int) + 1)]) := upd_same
    show tSeq _ _ _ _ (upd H5 sz _)
    generalize upd H5 sz (.lst [V.int 1, .int 1, .int (A2 : Int), .int 2, .non, .int ((of : Int) + 1)]) = H6 at v kz ⊢
    clear hz
    -- one standing only
    refine ⟨_, rfl, rfl, _, rfl, ?_⟩
    have e2L : (A2 : Nat) = (least tags (stripForm tags sm o)).length ∨ (o = none ∨ sm = []) := by
      by_cases z : o = none ∨ sm = []
      · exact .inr z
      · refine .inl ?_
        cases o with
        | none => exact absurd (.inl rfl) z
        | some n =>
          cases sm with
          | nil => exact absurd (.inr rfl) z
          | cons t sm =>
            rw [strip_lenN to (ho n rfl) List.mem_cons_self (smI t List.mem_cons_self), eA2, if_neg (fun z => nomatch z)]
            rfl
    have e1L : (o = none ∨ sm = []) → (least tags (stripForm tags sm o)).length = 1 := strip_len1 to ho
    refine or_key (fun b H' => Kv (Tof X) X.c_Eater Hd H' p a [sz, D, p] tags [e1, e2, e3, e4, e5, e6] [putF tags [], putF tags wd, stripForm tags sm o, onceForm tags tg, exForm tags ps, pressForm tags tg of] ∧ H' sz = some (.lst [V.int 1, .int 1, .int (A2 : Int), .int 2, .non, .int ((of : Int) + 1)]) ∧ (b = true ↔ (o = none ∨ sm = []))) ?_ (fun h => ⟨v, kz, ⟨fun _ => .inl (by
      cases o with
      | none => rfl
      | some n => exact nomatch of_decide_eq_true h), fun _ => rfl⟩⟩) (fun h fin => ?_)
    rotate_left
    · refine ⟨_, rfl, by show 0 ≤ sizeLine; decide, fun y hy => ?_⟩
      have v := v.new (o := .lst []) hy
      have k2 : WordAt (upd H6 y (.lst [])) y [] := upd_same
      have kz := same_new (o := .lst []) hy _ _ kz
      refine eq_words (x.s_ v) k2 (fun t ht => (to.names t (smI t ht)).txt) (fun _ h => nomatch h) ⟨_, rfl, ?_⟩
      refine fin _ _ ⟨v, kz, ⟨fun h => .inr (of_decide_eq_true h), fun h2 => decide_eq_true (h2.resolve_left fun e => ?_)⟩⟩
      rw [e] at h
      exact absurd h (by decide)
    clear v kz
    rintro bb H7 ⟨v, kz, hb⟩
    refine ite_key (fun σ' H' => σ' = [some (.ref p), some (.ref a), some (.ref c), some (.ref q), some (.str tg), some (.ref s), some (noV o), some (.int (of : Int)), some (.ref r), some (.str (allD tags wd sm ps).shown), some (.ref l), some (.ref d), some (.ref sz), none, none, none, none] ∧ Kv (Tof X) X.c_Eater Hd H' p a [sz, D, p] tags [e1, e2, e3, e4, e5, e6] [putF tags [], putF tags wd, stripForm tags sm o, onceForm tags tg, exForm tags ps, pressForm tags tg of] ∧ H' sz = some (.lst [V.int 1, .int 1, .int ((least tags (stripForm tags sm o)).length : Int), .int 2, .non, .int ((of : Int) + 1)])) ?_ (fun key h => ?_) (fun key h => ?_)
    rotate_left
    · refine ⟨_, rfl, sz, _, 2, 2, rfl, rfl, kz, rfl, ?_⟩
      refine key _ _ ⟨rfl, v.put List.mem_cons_self zp, ?_⟩
      rw [upd_same, e1L (hb.mp h)]
      rfl
    · refine key _ _ ⟨rfl, v, ?_⟩
      rw [kz]
      rcases e2L with e | e
      · rw [e]
      · rw [hb.mpr e] at h
        cases h
    clear v kz hb e2L e1L eA2
    rintro σ' H8 ⟨rfl, v, kz⟩
    -- alike
    refine ⟨_, rfl, l, _, _, _, rfl, rfl, SqL.of (hideT_sub _ _ (v.ba _ _ kl)), atI_nat (j := 4) rfl, ?_⟩
    obtain ⟨ts, r1, r2⟩ := x.r_ v
    refine ⟨_, rfl, _, rfl, r, _, rfl, SqL.of r1, fun z hz => ?_⟩
    have sn := same_new (o := .lst (ts.map V.ref).reverse) hz
    have v := v.same sn
    have kz := sn _ _ kz
    have rz : PairsAt (upd H8 z (.lst (ts.map V.ref).reverse)) z ps.reverse := ⟨ts.reverse, by rw [upd_same, List.map_reverse], Paired.rev (L2.Paired.mapP r2 fun _ _ h => sn _ _ h)⟩
    generalize upd H8 z (.lst (ts.map V.ref).reverse) = H9 at v kz rz ⊢
    clear sn hz r1 r2
    have ndr : (ps.reverse.map (·.1)).Nodup := by
      rw [List.map_reverse]
      exact List.pairwise_reverse.mpr (ndp.imp fun e => Ne.symm e)
    have inr_ : ∀ z ∈ ps.reverse, z.1 ∈ tags ∧ z.2 ∈ tags := fun z hz => inp z (List.mem_reverse.mp hz)
    have mkr : Mk tags (exForm tags ps.reverse) (exch ps) := by
      have m := mk_ex to ndr inr_ (by rw [List.length_reverse]; omega)
      rw [show exch ps.reverse = exch ps from funext fun u => (exch_perm ndp ndr (fun z => List.mem_reverse.symm) u).symm] at m
      exact m
    refine ⟨a, z, tags, ps.reverse, rfl, v.tag, rz, to, ndr, inr_, by rw [List.length_reverse]; omega, v.tb, fun e7 _ _ _ _ H10 g _ m7 => ?_⟩
    have v := v.exT g
    have kz := g.lst kz
    clear g rz
    rw [← mk4.same mkr to.nd] at m7
    obtain ⟨dx, xa, xb, i1, i2, i3⟩ := v.at_ (j := 4) (e := e5) (F := exForm tags ps) rfl rfl
    refine ⟨e5, dx, _, _, rfl, i1, X.oc_Eater.ty X.cl_Eater m7.ins, QO.OwnC.same, ?_⟩
    refine eatEq (v.at_ (j := 4) (e := e5) (F := exForm tags ps) rfl rfl) m7.at_ mk4.w mk4.w ?_
    refine ⟨_, rfl, _, rfl, ?_⟩
    rw [decide_eq_true rfl]
    refine iteF ?_
    clear m7 i1 i2 i3 mkr ndr inr_
    refine ⟨_, rfl, l, _, _, _, rfl, rfl, SqL.of (hideT_sub _ _ (v.ba _ _ kl)), atI_nat (j := 2) rfl, ?_⟩
    refine ⟨_, rfl, _, rfl, s, _, rfl, SqL.of (x.s_ v), fun z hz => ?_⟩
    have sn := same_new (o := .lst (vS sm).reverse) hz
    have v := v.same sn
    have kz := sn _ _ kz
    have sz_ : WordAt (upd H10 z (.lst (vS sm).reverse)) z sm.reverse := by
      unfold WordAt
      rw [upd_same]
      unfold vS
      rw [List.map_reverse]
    generalize upd H10 z (.lst (vS sm).reverse) = H11 at v kz sz_ ⊢
    clear sn hz
    have mkr : Mk tags (stripForm tags sm.reverse o) (fun u => u.drop (cnt sm o u)) := by
      have m : Mk tags (stripForm tags sm.reverse o) _ := mk_strip to ho
      rw [show (fun u : Word => u.drop (cnt sm.reverse o u)) = fun u => u.drop (cnt sm o u) from funext fun u => by rw [cnt_congr (fun t => List.mem_reverse) u o]] at m
      exact m
    refine ⟨_, rfl, ?_⟩
    refine ⟨a, z, tags, sm.reverse, o, rfl, v.tag, sz_, to, List.pairwise_reverse.mpr (smN.imp fun e => Ne.symm e), (fun t ht => smI t (List.mem_reverse.mp ht)), ho, v.tb, fun e7 _ _ _ _ H12 g _ m7 => ?_⟩
    have v := v.exT g
    have kz := g.lst kz
    clear g sz_
    rw [← mk2.same mkr to.nd] at m7
    obtain ⟨dx, xa, xb, i1, i2, i3⟩ := v.at_ (j := 2) (e := e3) (F := stripForm tags sm o) rfl rfl
    refine ⟨e3, dx, _, _, rfl, i1, X.oc_Eater.ty X.cl_Eater m7.ins, QO.OwnC.same, ?_⟩
    refine eatEq (v.at_ (j := 2) (e := e3) (F := stripForm tags sm o) rfl rfl) m7.at_ mk2.w mk2.w ?_
    refine ⟨_, rfl, _, rfl, ?_⟩
    rw [decide_eq_true rfl]
    refine iteF ?_
    clear m7 i1 i2 i3 mkr
    -- moved
    obtain ⟨ts, r1, r2⟩ : PairsAt (hideT [p] Hd) r ps := x.r
    have tsl := Paired.length r2
    refine ⟨_, rfl, _, rfl, ⟨_, SqL.of (hideT_sub _ _ (v.ba _ _ r1))⟩, fun D2 hD2 => ?_⟩
    have D2p : D2 ≠ p := (v.pl.ne hD2).symm
    have nsz : sz ≠ D2 := ne_of_none kz hD2
    refine lc_it (walk_list (K := K) (a := r) (xs := ts.map V.ref)) (fun i H' => Kv (Tof X) X.c_Eater Hd H' p a [D2, sz, D, p] tags [e1, e2, e3, e4, e5, e6] [putF tags [], putF tags wd, stripForm tags sm o, onceForm tags tg, exForm tags ps, pressForm tags tg of] ∧ H' sz = some (.lst [V.int 1, .int 1, .int ((least tags (stripForm tags sm o)).length : Int), .int 2, .non, .int ((of : Int) + 1)]) ∧ WordAt H' D2 (news (ps.take i)))
      ⟨v.list hD2, same_new hD2 _ _ kz, upd_same⟩ (fun i H' _ h => SqL.of (hideT_sub _ _ (h.1.ba _ _ r1))) ?_ ?_
    · rintro i y H13 H14 hi ⟨v2, kz2, k2⟩ ⟨rfl, hy⟩
      have hi : i < ts.length := by rw [List.length_map] at hi; exact hi
      have et : ts[i]? = some (ts[i]'hi) := List.getElem?_eq_getElem hi
      rw [List.getElem?_map, et] at hy
      cases hy
      obtain ⟨pr, ep, hq⟩ := paired_get' r2 et
      have hq1 := hideT_sub _ _ (v2.ba _ _ hq)
      have ht1 : news (ps.take (i + 1)) = news (ps.take i) ++ if pr.1 = pr.2 then [] else [pr.2] := by
        rw [List.take_add_one, ep]
        exact news_snoc
      refine ⟨_, _, rfl, SqT.of hq1, rfl, _, _, rfl, _, _, rfl, rfl, ?_⟩
      refine ⟨rfl, _, rfl, _, rfl, by rfl, _, rfl, ?_⟩
      by_cases e : pr.1 = pr.2
      · rw [show (!decide (V.str pr.1 = V.str pr.2)) = false by rw [e]; simp]
        refine iteF ?_
        rw [ht1, if_pos e, List.append_nil]
        exact ⟨v2, kz2, k2⟩
      · rw [show (!decide (V.str pr.1 = V.str pr.2)) = true by simp [e]]
        refine iteT ?_
        have := news_len (ps := ps.take i)
        rw [List.length_take] at this
        refine ⟨_, rfl, _, k2, by rw [vS_len]; exact sz_lt (by omega), v2.put List.mem_cons_self D2p, (upd_ne nsz).trans kz2, ?_⟩
        rw [ht1, if_neg e]
        unfold WordAt
        rw [upd_same, ← vS_append]
        rfl
    rintro H13 ⟨v, kz, k2⟩
    rw [List.length_map, tsl, List.take_length] at k2
    clear r1 r2 tsl hD2 nsz
    show tSeq _ _ _ (List.set _ 13 _) _
    have nw6 := news_len (ps := ps)
    refine ⟨_, rfl, D2, news ps, rfl, SqL.of k2, by unfold scanBound; omega, _, _, rfl, rfl, ?_⟩
    refine ⟨_, rfl, sz, _, 4, 4, rfl, rfl, kz, rfl, ?_⟩
    have el : (1 : Int) + ((QZ.fm (news ps) (news ps).length).length : Nat) = ((least tags (exForm tags ps)).length : Int) := by
      rw [ex_len to ndp inp (by omega)]
      show (1 : Int) + ((kinds ps).length : Nat) = _
      omega
    show tSeq _ _ _ _ (upd H13 sz (.lst [V.int 1, .int 1, .int ((least tags (stripForm tags sm o)).length : Int), .int 2, .int ((1 : Int) + ((QZ.fm (news ps) (news ps).length).length : Nat)), .int ((of : Int) + 1)]))
    rw [el]
    have v := v.put (d := sz) (ys := [V.int 1, .int 1, .int ((least tags (stripForm tags sm o)).length : Int), .int 2, .int ((least tags (exForm tags ps)).length : Int), .int ((of : Int) + 1)]) (List.mem_cons_of_mem _ List.mem_cons_self) zp
    have kz : upd H13 sz (.lst [V.int 1, .int 1, .int ((least tags (stripForm tags sm o)).length : Int), .int 2, .int ((least tags (exForm tags ps)).length : Int), .int ((of : Int) + 1)]) sz = some (.lst [V.int 1, .int 1, .int ((least tags (stripForm tags sm o)).length : Int), .int 2, .int ((least tags (exForm tags ps)).length : Int), .int ((of : Int) + 1)]) := upd_same
    show tSeq _ _ _ _ (upd H13 sz (.lst [V.int 1, .int 1, .int ((least tags (stripForm tags sm o)).length : Int), .int 2, .int ((least tags (exForm tags ps)).length : Int), .int ((of : Int) + 1)]))
    generalize upd H13 sz (.lst [V.int 1, .int 1, .int ((least tags (stripForm tags sm o)).length : Int), .int 2, .int ((least tags (exForm tags ps)).length : Int), .int ((of : Int) + 1)]) = H14 at v kz ⊢
    clear k2 el nw6
    -- how many standings
    refine ⟨_, rfl, _, rfl, ⟨_, SqL.of (hideT_sub _ _ (v.ba _ _ kl))⟩, fun D3 hD3 => ?_⟩
    have D3p : D3 ≠ p := (v.pl.ne hD3).symm
    have nsz : sz ≠ D3 := ne_of_none kz hD3
    refine lc_it (walk_list (K := K) (a := l) (xs := [e1, e2, e3, e4, e5, e6].map V.ref)) (fun i H' => Kv (Tof X) X.c_Eater Hd H' p a [D3, D2, sz, D, p] tags [e1, e2, e3, e4, e5, e6] [putF tags [], putF tags wd, stripForm tags sm o, onceForm tags tg, exForm tags ps, pressForm tags tg of] ∧ H' sz = some (.lst [V.int 1, .int 1, .int ((least tags (stripForm tags sm o)).length : Int), .int 2, .int ((least tags (exForm tags ps)).length : Int), .int ((of : Int) + 1)]) ∧ H' D3 = some (.lst (([putF tags [], putF tags wd, stripForm tags sm o, onceForm tags tg, exForm tags ps, pressForm tags tg of].map fun F => V.int ((least tags F).length : Int)).take i)))
      ⟨v.list hD3, same_new hD3 _ _ kz, upd_same⟩ (fun i H' _ h => SqL.of (hideT_sub _ _ (h.1.ba _ _ kl))) ?_ ?_
    · rintro i y H15 H16 hi ⟨v2, kz2, k2⟩ ⟨rfl, hy⟩
      have hi : i < 6 := hi
      have ei : [e1, e2, e3, e4, e5, e6][i]? = some ([e1, e2, e3, e4, e5, e6][i]'hi) := List.getElem?_eq_getElem _
      generalize [e1, e2, e3, e4, e5, e6][i]'hi = e at ei
      rw [List.getElem?_map, ei] at hy
      cases hy
      obtain ⟨F, eF, hE⟩ := paired_get' v2.ev ei
      obtain ⟨wj, ew, f, m, ef⟩ := paired_get' mkL eF
      have E1 : EatAt X.c_Eater H16 e tags (least tags F) := hE.ext (T := []) (.of hideT_sub)
      have E1' := E1
      obtain ⟨dx, xa, xb, i1, i2, i3⟩ := E1
      refine ⟨rfl, ?_⟩
      refine ⟨_, rfl, e, dx, _, rfl, i1, e, tags, least tags F, rfl, E1', (least tags F).length, rfl, sz_lt (by have := m.len2; omega), ?_⟩
      refine ⟨_, k2, sz_lt (by rw [List.length_take]; omega), v2.put List.mem_cons_self D3p, (upd_ne nsz).trans kz2, ?_⟩
      rw [upd_same, List.take_add_one, List.getElem?_map, eF]
      rfl
    rintro H15 ⟨v, kz, k2⟩
    have k2 : H15 D3 = some (.lst [.int ((least tags (putF tags [])).length : Int), .int ((least tags (putF tags wd)).length : Int), .int ((least tags (stripForm tags sm o)).length : Int), .int ((least tags (onceForm tags tg)).length : Int), .int ((least tags (exForm tags ps)).length : Int), .int ((least tags (pressForm tags tg of)).length : Int)]) := k2
    rw [put_len (wd := []) to (fun _ h => nomatch h) (Nat.zero_le _), put_len to hw hwl, once_len to htg, press_lenN to htg hof] at k2
    clear hD3 nsz
    refine ⟨_, rfl, ?_⟩
    refine ne_self (d := .list [.int 1, .int 1, .int ((least tags (stripForm tags sm o)).length : Int), .int 2, .int ((least tags (exForm tags ps)).length : Int), .int ((of : Int) + 1)]) (.lst (SqL.of k2) (.cons (.int _) (.cons (.int _) (.cons (.int _) (.cons (.int _) (.cons (.int _) (.cons (.int _) .nil))))))) (.lst (SqL.of kz) (.cons (.int _) (.cons (.int _) (.cons (.int _) (.cons (.int _) (.cons (.int _) (.cons (.int _) .nil))))))) rfl ⟨_, rfl, ?_⟩
    refine iteF ?_
    clear k2
    -- which tags
    refine ⟨_, rfl, _, rfl, ⟨_, SqL.of (hideT_sub _ _ (v.ba _ _ kl))⟩, fun D4 hD4 => ?_⟩
    have D4p : D4 ≠ p := (v.pl.ne hD4).symm
    have nsz : sz ≠ D4 := ne_of_none kz hD4
    refine lc_it (walk_list (K := K) (a := l) (xs := [e1, e2, e3, e4, e5, e6].map V.ref)) (fun i H' => Kv (Tof X) X.c_Eater Hd H' p a [D4, D3, D2, sz, D, p] tags [e1, e2, e3, e4, e5, e6] [putF tags [], putF tags wd, stripForm tags sm o, onceForm tags tg, exForm tags ps, pressForm tags tg of] ∧ H' sz = some (.lst [V.int 1, .int 1, .int ((least tags (stripForm tags sm o)).length : Int), .int 2, .int ((least tags (exForm tags ps)).length : Int), .int ((of : Int) + 1)]) ∧ ∃ os : List Addr, D4 ∉ os ∧ H' D4 = some (.lst (os.map V.ref)) ∧ Paired (fun z w => WordAt H' z w) os ((List.replicate 6 tags).take i))
      ⟨v.list hD4, same_new hD4 _ _ kz, [], (fun h => nomatch h), upd_same, .nil⟩ (fun i H' _ h => SqL.of (hideT_sub _ _ (h.1.ba _ _ kl))) ?_ ?_
    · rintro i y H16 H17 hi ⟨v2, kz2, os, nD, k2, t2⟩ ⟨rfl, hy⟩
      have hi : i < 6 := hi
      have ei : [e1, e2, e3, e4, e5, e6][i]? = some ([e1, e2, e3, e4, e5, e6][i]'hi) := List.getElem?_eq_getElem _
      generalize [e1, e2, e3, e4, e5, e6][i]'hi = e at ei
      rw [List.getElem?_map, ei] at hy
      cases hy
      obtain ⟨F, eF, hE⟩ := paired_get' v2.ev ei
      have E1 : EatAt X.c_Eater H17 e tags (least tags F) := hE.ext (T := []) (.of hideT_sub)
      have E1' := E1
      obtain ⟨dx, xa, xb, i1, i2, i3⟩ := E1
      refine ⟨rfl, ?_⟩
      refine ⟨_, rfl, e, dx, _, rfl, i1, rfl, ?_⟩
      refine ⟨e, tags, least tags F, rfl, E1', fun z n4 => ?_⟩
      have sn := same_new (o := .lst (vS tags)) n4
      have v4 := v2.same sn
      have k4 := sn _ _ k2
      have kz4 := sn _ _ kz2
      have t4 := L2.Paired.mapP t2 fun _ _ h => Same.word sn h
      have h4 : WordAt (upd H17 z (.lst (vS tags))) z tags := upd_same
      have nz : z ≠ D4 := fun e => by rw [e] at n4; rw [n4] at k2; cases k2
      generalize upd H17 z (.lst (vS tags)) = H18 at v4 k4 kz4 t4 h4 ⊢
      refine ⟨_, k4, by rw [List.length_map, Paired.length t4, List.length_take]; exact sz_lt (by omega), v4.put List.mem_cons_self D4p, (upd_ne nsz).trans kz4, os ++ [z], fun h => (List.mem_append.mp h).elim nD fun h => nz (List.mem_singleton.mp h).symm, ?_, ?_⟩
      · rw [upd_same, List.map_append]
        rfl
      · rw [List.take_add_one, List.getElem?_replicate, if_pos hi]
        exact Paired.snoc (paired_mem t4 fun b _ hb h => (upd_ne (fun e : b = D4 => nD (by rw [← e]; exact hb))).trans h) ((upd_ne nz).trans h4)
    rintro H16 ⟨v, kz, os, _, k2, t2⟩
    have t2 : Paired (fun z w => WordAt H16 z w) os [tags, tags, tags, tags, tags, tags] := t2
    clear hD4 nsz
    refine ⟨_, rfl, by show 1 ≤ sizeLine; decide, fun y1 hy1 => ?_⟩
    have sn := same_new (o := .lst [V.ref a]) hy1
    have v := v.same sn
    have kz := sn _ _ kz
    have k2 := sn _ _ k2
    have t2 := L2.Paired.mapP t2 fun _ _ h => Same.word sn h
    have q1 : upd H16 y1 (.lst [V.ref a]) y1 = some (.lst [V.ref a]) := upd_same
    generalize upd H16 y1 (.lst [V.ref a]) = H17 at v kz k2 t2 q1 ⊢
    clear sn hy1
    refine ⟨y1, 6, _, rfl, rfl, q1, by decide, by decide, by show 1 * 6 ≤ sizeLine; decide, fun y2 hy2 => ?_⟩
    have sn := same_new (o := .lst (List.replicate (6 : Int).toNat [V.ref a]).flatten) hy2
    have v := v.same sn
    have kz := sn _ _ kz
    have k2 := sn _ _ k2
    have t2 := L2.Paired.mapP t2 fun _ _ h => Same.word sn h
    have q2 : upd H17 y2 (.lst (List.replicate (6 : Int).toNat [V.ref a]).flatten) y2 = some (.lst ([a, a, a, a, a, a].map V.ref)) := upd_same
    generalize upd H17 y2 (.lst (List.replicate (6 : Int).toNat [V.ref a]).flatten) = H18 at v kz k2 t2 q2 ⊢
    clear sn hy2 q1
    have okt : OkWord tags := fun t ht => (to.names t ht).txt
    refine ne_wds k2 t2 q2 (.cons v.tag (.cons v.tag (.cons v.tag (.cons v.tag (.cons v.tag (.cons v.tag .nil)))))) (fun w hw => by
      simp only [List.mem_cons, List.not_mem_nil, or_false, or_self] at hw
      rw [hw]
      exact okt) ⟨_, rfl, ?_⟩
    refine iteF ?_
    clear k2 t2 q2
    -- words that are not settled
    refine ⟨by show 0 ≤ sizeLine; decide, fun w0 h0 => ?_⟩
    have sn := same_new (o := .lst []) h0
    have v := v.same sn
    have kz := sn _ _ kz
    have W0 : WordAt (upd H18 w0 (.lst [])) w0 (List.replicate 0 tg) := upd_same
    generalize upd H18 w0 (.lst []) = H19 at v kz W0 ⊢
    clear sn h0
    refine ⟨_, rfl, by show 1 ≤ sizeLine; decide, fun y3 hy => ?_⟩
    have sn := same_new (o := .lst [V.str tg]) hy
    have v := v.same sn
    have kz := sn _ _ kz
    have W0 := Same.word sn W0
    have q3 : upd H19 y3 (.lst [V.str tg]) y3 = some (.lst [V.str tg]) := upd_same
    generalize upd H19 y3 (.lst [V.str tg]) = H20 at v kz W0 q3 ⊢
    clear sn hy
    refine ⟨_, rfl, y3, (of : Int), _, rfl, rfl, q3, by omega, by omega, by rw [Int.toNat_natCast]; exact Nat.le_of_lt (sz_lt (by show 1 * of < _; omega)), fun w1 h1 => ?_⟩
    rw [flat_tags of rfl]
    have sn := same_new (o := .lst (vS (List.replicate of tg))) h1
    have v := v.same sn
    have kz := sn _ _ kz
    have W0 := Same.word sn W0
    have W1 : WordAt (upd H20 w1 (.lst (vS (List.replicate of tg)))) w1 (List.replicate of tg) := upd_same
    generalize upd H20 w1 (.lst (vS (List.replicate of tg))) = H21 at v kz W0 W1 ⊢
    clear sn h1 q3
    refine ⟨_, rfl, by show 1 ≤ sizeLine; decide, fun y3 hy => ?_⟩
    have sn := same_new (o := .lst [V.str tg]) hy
    have v := v.same sn
    have kz := sn _ _ kz
    have W0 := Same.word sn W0
    have W1 := Same.word sn W1
    have q3 : upd H21 y3 (.lst [V.str tg]) y3 = some (.lst [V.str tg]) := upd_same
    generalize upd H21 y3 (.lst [V.str tg]) = H22 at v kz W0 W1 q3 ⊢
    clear sn hy
    refine ⟨_, rfl, _, _, rfl, rfl, ?_⟩
    refine ⟨y3, (of : Int) + 1, _, rfl, rfl, q3, by omega, by omega, by rw [show ((of : Int) + 1).toNat = of + 1 by omega]; exact Nat.le_of_lt (sz_lt (by show 1 * (of + 1) < _; omega)), fun w2 h2 => ?_⟩
    rw [flat_tags (of + 1) (by omega)]
    have sn := same_new (o := .lst (vS (List.replicate (of + 1) tg))) h2
    have v := v.same sn
    have kz := sn _ _ kz
    have W0 := Same.word sn W0
    have W1 := Same.word sn W1
    have W2 : WordAt (upd H22 w2 (.lst (vS (List.replicate (of + 1) tg)))) w2 (List.replicate (of + 1) tg) := upd_same
    generalize upd H22 w2 (.lst (vS (List.replicate (of + 1) tg))) = H23 at v kz W0 W1 W2 ⊢
    clear sn h2 q3
    refine ⟨by show 3 ≤ sizeLine; decide, fun lw hlw => ?_⟩
    have sn := same_new (o := .lst [V.ref w0, .ref w1, .ref w2]) hlw
    have v := v.same sn
    have kz := sn _ _ kz
    have W0 := Same.word sn W0
    have W1 := Same.word sn W1
    have W2 := Same.word sn W2
    have kw2 : upd H23 lw (.lst [V.ref w0, .ref w1, .ref w2]) lw = some (.lst [V.ref w0, .ref w1, .ref w2]) := upd_same
    generalize upd H23 lw (.lst [V.ref w0, .ref w1, .ref w2]) = H24 at v kz W0 W1 W2 kw2 ⊢
    clear sn hlw
    have words : ∀ (i : Nat) (y : V), [V.ref w0, .ref w1, .ref w2][i]? = some y → ∃ (z : Addr) (k : Nat), y = .ref z ∧ k ≤ 21 ∧ WordAt H24 z (List.replicate k tg) := fun i y h => by
      have h := List.mem_of_getElem? h
      simp only [List.mem_cons, List.not_mem_nil, or_false] at h
      rcases h with rfl | rfl | rfl
      · exact ⟨_, _, rfl, by omega, W0⟩
      · exact ⟨_, _, rfl, by omega, W1⟩
      · exact ⟨_, _, rfl, by omega, W2⟩
    clear W0 W1 W2
    refine ⟨_, rfl, ⟨_, SqL.of kw2⟩, ?_⟩
    refine for_it (walk_list (K := K) (a := lw) (xs := [V.ref w0, .ref w1, .ref w2])) (fun i σ H' => ∃ v3 : Option V, σ = [some (.ref p), some (.ref a), some (.ref c), v3, some (.str tg), some (.ref s), some (noV o), some (.int (of : Int)), some (.ref r), some (.str (allD tags wd sm ps).shown), some (.ref l), some (.ref d), some (.ref sz), some (.ref D2), none, none, none] ∧ Kv (Tof X) X.c_Eater Hd H' p a [D4, D3, D2, sz, D, p] tags [e1, e2, e3, e4, e5, e6] [putF tags [], putF tags wd, stripForm tags sm o, onceForm tags tg, exForm tags ps, pressForm tags tg of] ∧ H' sz = some (.lst [V.int 1, .int 1, .int ((least tags (stripForm tags sm o)).length : Int), .int 2, .int ((least tags (exForm tags ps)).length : Int), .int ((of : Int) + 1)]) ∧ Same H24 H')
      ⟨_, rfl, v, kz, Same.refl _⟩ (fun i σ H' _ h => by
        obtain ⟨_, _, _, _, h⟩ := h
        exact SqL.of (h _ _ kw2)) ?_ ?_
    · rintro i y σ H25 H26 hi ⟨v3, rfl, v, kz, s25⟩ ⟨rfl, hy⟩
      obtain ⟨z, k, rfl, hk, hz⟩ := words i y hy
      refine ⟨_, rfl, l, _, _, _, rfl, rfl, SqL.of (hideT_sub _ _ (v.ba _ _ kl)), atI_nat (j := 5) rfl, ?_⟩
      have E6 := v.at_ (j := 5) (e := e6) (F := pressForm tags tg of) rfl rfl
      obtain ⟨dx, xa, xb, i1, i2, i3⟩ := v.at_ (j := 5) (e := e6) (F := pressForm tags tg of) rfl rfl
      refine ⟨e6, dx, _, rfl, i1, rfl, _, rfl, ?_⟩
      refine ⟨e6, z, tags, least tags (pressForm tags tg of), List.replicate k tg, rfl, E6, Same.word s25 hz, mk5.good, in_rep htg k, by rw [List.length_replicate]; omega, fun s hs => by have := mk5.wl2 s hs; omega, by omega, fun vv H27 s27 ho => ?_⟩
      rw [press_set to htg hof k] at ho
      have ho : vv = .non := ho
      subst ho
      refine ⟨rfl, _, rfl, ?_⟩
      refine iteF ?_
      exact ⟨_, rfl, v.same s27, s27 _ _ kz, s25.trans s27⟩
    rintro σ H25 ⟨v3, rfl, v, kz, _⟩
    clear words kw2
    dsimp only
    refine seq_key (fun σ' H' => ∃ v3 : Option V, σ' = [some (.ref p), some (.ref a), some (.ref c), v3, some (.str tg), some (.ref s), some (noV o), some (.int (of : Int)), some (.ref r), some (.str (allD tags wd sm ps).shown), some (.ref l), some (.ref d), some (.ref sz), some (.ref D2), none, none, none] ∧ Kv (Tof X) X.c_Eater Hd H' p a [D4, D3, D2, sz, D, p] tags [e1, e2, e3, e4, e5, e6] [putF tags [], putF tags wd, stripForm tags sm o, onceForm tags tg, exForm tags ps, pressForm tags tg of]) ?_ (fun key => ?_)
    · rintro σ' H26 ⟨v3, rfl, v⟩
      refine ⟨_, rfl, l, _, _, _, rfl, rfl, SqL.of (hideT_sub _ _ (v.ba _ _ kl)), atI_nat (j := 3) rfl, ?_⟩
      refine ⟨e4, tags, _, rfl, v.at_ (j := 3) (e := e4) (F := onceForm tags tg) rfl rfl, to, mk3.small, v.tb, fun H27 x27 _ => ?_⟩
      rw [mk3.idem to (fun u _ => once_idem u), decide_eq_true rfl]
      have v := v.exT x27
      refine ⟨_, rfl, ?_⟩
      refine iteT ?_
      refine ⟨_, rfl, l, _, _, _, rfl, rfl, SqL.of (hideT_sub _ _ (v.ba _ _ kl)), atI_nat (j := 5) rfl, ?_⟩
      refine ⟨e6, tags, _, rfl, v.at_ (j := 5) (e := e6) (F := pressForm tags tg of) rfl rfl, to, mk5.small, v.tb, fun H28 x28 _ => ?_⟩
      rw [mk5.idem to (fun u _ => press_idem u), decide_eq_true rfl]
      have v := v.exT x28
      refine ⟨_, rfl, ?_⟩
      refine iteT ?_
      refine ⟨_, rfl, l, _, _, _, rfl, rfl, SqL.of (hideT_sub _ _ (v.ba _ _ kl)), atI_nat (j := 0) rfl, ?_⟩
      refine ⟨e1, tags, _, rfl, v.at_ (j := 0) (e := e1) (F := putF tags []) rfl rfl, to, mk0.small, v.tb, fun H29 x29 _ => ?_⟩
      rw [mk0.idem to (fun u _ => rfl), decide_eq_true rfl]
      have v := v.exT x29
      exact kk _ v.ba v.pl v.tb
    refine ⟨_, rfl, by show 0 ≤ sizeLine; decide, fun y hy => ?_⟩
    have sn := same_new (o := .lst []) hy
    have v := v.same sn
    have kz := sn _ _ kz
    have W0 : WordAt (upd H25 y (.lst [])) y [] := upd_same
    generalize upd H25 y (.lst []) = H26 at v kz W0 ⊢
    clear sn hy
    refine ne_words (x.s_ v) W0 (fun t ht => (to.names t (smI t ht)).txt) (fun _ h => nomatch h) ⟨_, rfl, ?_⟩
    clear W0
    by_cases z : sm = []
    · rw [decide_eq_true z]
      refine iteF (iteF ?_)
      exact key _ _ ⟨_, rfl, v⟩
    rw [decide_eq_false z]
    refine iteT ?_
    refine ⟨_, rfl, sz, _, _, _, rfl, rfl, SqL.of kz, atI_nat (j := 2) rfl, ?_⟩
    refine ⟨_, _, rfl, rfl, _, rfl, ?_⟩
    by_cases z1 : (1 : Int) < ((least tags (stripForm tags sm o)).length : Int)
    · obtain ⟨n, rfl⟩ : ∃ n, o = some n := by
        cases o with
        | none =>
          rw [strip_len1 to ho (.inl rfl)] at z1
          exact absurd z1 (by decide)
        | some n => exact ⟨n, rfl⟩
      obtain ⟨t, sm', rfl⟩ : ∃ t sm', sm = t :: sm' := by
        cases sm with
        | nil => exact absurd rfl z
        | cons t sm' => exact ⟨t, sm', rfl⟩
      have hn := ho n rfl
      have ht := smI t List.mem_cons_self
      have n1 : 1 ≤ n := by
        rw [strip_lenN to hn List.mem_cons_self ht] at z1
        omega
      rw [decide_eq_true z1]
      refine iteT ?_
      have E3 := fun H' (v : Kv (Tof X) X.c_Eater Hd H' p a [D4, D3, D2, sz, D, p] tags [e1, e2, e3, e4, e5, e6] [putF tags [], putF tags wd, stripForm tags (t :: sm') (some n), onceForm tags tg, exForm tags ps, pressForm tags tg of]) => v.at_ (j := 2) (e := e3) (F := stripForm tags (t :: sm') (some n)) rfl rfl
      have ct : cutV (vS (t :: sm')) none (some 1) = [V.str t] := (cut_take (vS (t :: sm')) 1).trans (vS_take (t :: sm') 1)
      obtain ⟨dx, xa, xb, i1, i2, i3⟩ := E3 _ v
      refine ⟨_, rfl, l, _, _, _, rfl, rfl, SqL.of (hideT_sub _ _ (v.ba _ _ kl)), atI_nat (j := 2) rfl, ?_⟩
      refine ⟨e3, dx, _, rfl, i1, rfl, ?_⟩
      refine ⟨_, rfl, _, rfl, _, _, rfl, SqL.of (x.s_ v), fun y1 hy1 => ?_⟩
      rw [ct]
      have v := v.new (o := .lst [V.str t]) hy1
      have q1 : upd H26 y1 (.lst [V.str t]) y1 = some (.lst [V.str t]) := upd_same
      generalize upd H26 y1 (.lst [V.str t]) = H27 at v q1 ⊢
      clear hy1 i1 i2 i3
      refine ⟨_, rfl, y1, (n : Int), _, rfl, rfl, q1, by omega, by omega, by rw [Int.toNat_natCast]; exact Nat.le_of_lt (sz_lt (by show 1 * n < _; omega)), fun y2 hy2 => ?_⟩
      rw [flat_tags n rfl]
      have v := v.new (o := .lst (vS (List.replicate n t))) hy2
      have q2 : WordAt (upd H27 y2 (.lst (vS (List.replicate n t)))) y2 (List.replicate n t) := upd_same
      generalize upd H27 y2 (.lst (vS (List.replicate n t))) = H28 at v q2 ⊢
      clear q1 hy2
      refine ⟨e3, y2, tags, least tags (stripForm tags (t :: sm') (some n)), List.replicate n t, rfl, E3 _ v, q2, mk2.good, in_rep ht n, by rw [List.length_replicate]; omega, fun s hs => by have := mk2.wl2 s hs; omega, by omega, fun vv H29 s29 hv => ?_⟩
      rw [strip_set to hn List.mem_cons_self ht] at hv
      obtain ⟨zz, rfl, hzz⟩ := hv
      have v := v.same s29
      clear q2 s29
      refine ⟨by show 0 ≤ sizeLine; decide, fun y3 hy3 => ?_⟩
      have hzz := Same.word (same_new (o := .lst []) hy3) hzz
      have v := v.new (o := .lst []) hy3
      have q3 : WordAt (upd H29 y3 (.lst [])) y3 [] := upd_same
      generalize upd H29 y3 (.lst []) = H30 at v hzz q3 ⊢
      refine ne_words hzz q3 (fun _ h => nomatch h) (fun _ h => nomatch h) ⟨_, rfl, ?_⟩
      refine iteF ?_
      clear hzz q3 hy3
      obtain ⟨dx, xa, xb, i1, i2, i3⟩ := E3 _ v
      refine ⟨_, rfl, l, _, _, _, rfl, rfl, SqL.of (hideT_sub _ _ (v.ba _ _ kl)), atI_nat (j := 2) rfl, ?_⟩
      refine ⟨e3, dx, _, rfl, i1, rfl, ?_⟩
      refine ⟨_, rfl, _, rfl, _, _, rfl, SqL.of (x.s_ v), fun y1 hy1 => ?_⟩
      rw [ct]
      have v := v.new (o := .lst [V.str t]) hy1
      have q1 : upd H30 y1 (.lst [V.str t]) y1 = some (.lst [V.str t]) := upd_same
      generalize upd H30 y1 (.lst [V.str t]) = H31 at v q1 ⊢
      clear hy1 i1 i2 i3
      refine ⟨_, rfl, _, _, rfl, rfl, ?_⟩
      refine ⟨y1, (n : Int) - 1, _, rfl, rfl, q1, by omega, by omega, by rw [show ((n : Int) - 1).toNat = n - 1 by omega]; exact Nat.le_of_lt (sz_lt (by show 1 * (n - 1) < _; omega)), fun y2 hy2 => ?_⟩
      rw [flat_tags (n - 1) (by omega)]
      have v := v.new (o := .lst (vS (List.replicate (n - 1) t))) hy2
      have q2 : WordAt (upd H31 y2 (.lst (vS (List.replicate (n - 1) t)))) y2 (List.replicate (n - 1) t) := upd_same
      generalize upd H31 y2 (.lst (vS (List.replicate (n - 1) t))) = H32 at v q2 ⊢
      clear q1 hy2
      refine ⟨e3, y2, tags, least tags (stripForm tags (t :: sm') (some n)), List.replicate (n - 1) t, rfl, E3 _ v, q2, mk2.good, in_rep ht _, by rw [List.length_replicate]; omega, fun s hs => by have := mk2.wl2 s hs; omega, by omega, fun vv H33 s33 hv => ?_⟩
      rw [strip_not to hn n1 List.mem_cons_self ht] at hv
      have hv : vv = .non := hv
      subst hv
      refine ⟨rfl, _, rfl, ?_⟩
      refine iteF ?_
      exact key _ _ ⟨_, rfl, v.same s33⟩
    · rw [decide_eq_false z1]
      refine iteF ?_
      exact key _ _ ⟨_, rfl, v⟩
end
end Law
end

section
set_option Elab.async false
set_option linter.all false
set_option maxRecDepth 100000
set_option maxHeartbeats 8000000
namespace Law
open PySem PySem.Spec PyProof.Rows L2 LamX QB QM QV
theorem ext_hide {T : List (Addr × Str)} {H0 Ha Hb : Hp} {p : Addr} (e : QB.Ext T H0 Ha) (f : Fresh H0 p) (s : Same (hideT [p] Ha) (hideT [p] Hb)) (t : Tabs T Hb) : QB.Ext T H0 Hb :=
  ⟨fun b o h n => (hideT_get (s _ _ (hideT_at (by simpa using (f.ne h n)) (e.1 b o h n) n))).2.1, fun _ => t⟩
theorem word_hide {Ha Hb : Hp} {p a : Addr} {w : Word} (pl : PileAt Ha p) (h : WordAt Ha a w) (s : Same (hideT [p] Ha) (hideT [p] Hb)) : WordAt Hb a w := (hideT_get (s _ _ (hideT_at (by simpa using pl.word h) h))).2.1
section
variable {P : Program} {w : World} {K : PySem.W.Frag} {mg : Str → Option Value} {base : Heap}
def spLaw (K : PySem.W.Frag) (T : List (Addr × Str)) : Sp := fun vs H Q _ => ∃ (l : Addr) (ns : List Int), vs = [.ref l] ∧ SqL K H l (ns.map V.int) ∧ Tabs T H ∧ ∀ H', Q (.bl true) H'
theorem ok_law (X : TX K mg) (TB : LamX.TabB base mg X.lam_c X.lam_P) (hB : ∃ mm, base.Ns sysModules mm) (hc : Room 13 callerA) : QT.RunG P w K mg base CX0 X.d_law.a X.d_law.fd "script" (spLaw K (Tof X)) := by
  have nd := sc_law.nd
  refine QT.run_ofG X.d_law.F sc_law hc (fun vs H Q E h => ?_) (fun cdv s0 H vs Q E hr h => ?_)
  · obtain ⟨l, ns, rfl, _⟩ := h
    rfl
  · obtain ⟨l, ns, rfl, hl, tb, q⟩ := h
    have hg := QT.guards0 (env := envOfC "law" (defScope s_law) s0.heap.objs.size X.d_law.a cdv)
    refine ⟨_, (pss_cons (ps_for PassesOwn.never rfl (pi_range1 (by rfl) X.n_range (pa_cons pe_int pa_nil)) (pg_name (i := 1) nd rfl (Or.inl rfl)) (pss_cons (ps_set (i := 2) nd rfl (Or.inl rfl) (pe_call (ok__law_pile X) (hr.mono (by decide)) rfl X.d__law_pile.mg X.d__law_pile.F.kp X.d__law_pile.b .nil pass0 (pa_cons (pv 0) (pa_cons (pv 1) pa_nil)))) (pss_cons (ps_set (i := 3) nd rfl (Or.inl rfl) (pe_call (ok__law_tags X) (hr.mono (by decide)) rfl X.d__law_tags.mg X.d__law_tags.F.kp X.d__law_tags.b .nil pass0 (pa_cons (pv 2) (pa_cons (pe_op op_add pe_int (pe_call (ok__law_take X) (hr.mono (by decide)) rfl X.d__law_take.mg X.d__law_take.F.kp X.d__law_take.b .nil pass0 (pa_cons (pv 2) (pa_cons pe_int pa_nil)))) pa_nil)))) (pss_cons (ps_if (pt_not (pt_val (pe_call (ok__law_kept_right X TB) (hr.mono (by decide)) rfl X.d__law_kept_right.mg X.d__law_kept_right.F.kp X.d__law_kept_right.b .nil pass0 (pa_cons (pv 2) (pa_cons (pv 3) pa_nil))))) (pss_one (ps_ret pe_bl)) pss_nil) (pss_one (ps_for PassesOwn.never rfl (pi_range1 (by rfl) X.n_range (pa_cons pe_int pa_nil)) (pg_name (i := 4) nd rfl (Or.inl rfl)) (pss_cons (ps_set (i := 5) nd rfl (Or.inl rfl) (pe_call (ok__law_subject X) (hr.mono (by decide)) rfl X.d__law_subject.mg X.d__law_subject.F.kp X.d__law_subject.b .nil pass0 (pa_cons (pv 2) (pa_cons (pv 3) (pa_cons pe_int pa_nil))))) (pss_cons (ps_if (pt_cmpR op_eq (pe_op op_mod (pv 4) pe_int) pe_int (nomark _)) (pss_one (ps_set (i := 5) nd rfl (Or.inl rfl) (pe_op op_cat (pe_op op_rep (pe_lst (pa_cons (pe_ix (QB.ix_listK K) (pv 3) (pe_call (ok__law_take X) (hr.mono (by decide)) rfl X.d__law_take.mg X.d__law_take.F.kp X.d__law_take.b .nil pass0 (pa_cons (pv 2) (pa_cons (pe_callB (QB.call_lenK K) (by rfl) X.n_len PySem.boot_len (pa_cons (pv 3) pa_nil)) pa_nil))) (fun _ _ => rfl)) pa_nil)) (pe_call (ok__law_take X) (hr.mono (by decide)) rfl X.d__law_take.mg X.d__law_take.F.kp X.d__law_take.b .nil pass0 (pa_cons (pv 2) (pa_cons pe_int pa_nil)))) (pv 5)))) pss_nil) (pss_one (ps_if (pt_not (pt_val (QG.pe_callG (ok__law_ones_right X TB hB) hg (hr.mono (by decide)) rfl X.d__law_ones_right.mg X.d__law_ones_right.F.kp X.d__law_ones_right.b pass0 (pa_cons (pv 2) (pa_cons (pv 3) (pa_cons (pv 5) pa_nil)))))) (pss_one (ps_ret pe_bl)) pss_nil)))))))))) (pss_one (ps_ret pe_bl))), ?_⟩
    try dsimp only [Cx.nox, Cx.wish, cxOf]
    clear hg
    refine ⟨(6 : Int), rfl, by decide, by decide, ?_⟩
    refine for_it (walk_range (lo := 0) (n := 6)) (fun i σ H' => ∃ v1 v2 v3 v4 v5 : Option V, σ = [some (.ref l), v1, v2, v3, v4, v5] ∧ QB.Ext (Tof X) H H')
      ⟨none, none, none, none, none, rfl, .refl⟩ (fun _ _ _ _ _ => True.intro) ?_ ?_
    · rintro i x σ H1 H2 hi ⟨v1, v2, v3, v4, v5, rfl, e1⟩ ⟨rfl, rfl⟩
      refine ⟨_, rfl, _, rfl, ?_⟩
      refine ⟨l, ns, 0 + i, rfl, e1.sqL hl, fun p G0 s0' np p0 => ?_⟩
      have e0 := e1.trans (.of s0')
      have fp : Fresh H p := e1.fresh (.of np)
      clear s0' np e1
      -- tags
      refine ⟨_, rfl, ?_⟩
      refine ⟨_, rfl, p, 4, rfl, by decide, by decide, p0, fun r G1 hr1 x1 p1 => ?_⟩
      have e1 := pg_ext e0 x1 fp p0
      refine ⟨_, _, rfl, rfl, ?_⟩
      refine ⟨p, 1 + r, by show [V.ref p, V.int ((1 : Int) + (r : Int))] = _; rw [show (1 : Int) + (r : Int) = ((1 + r : Nat) : Int) by omega], by omega, by omega, p1, fun tags a G2 to tl x2 p2 na ha => ?_⟩
      have e2 := pg_ext e1 x2 fp p1
      clear x1 x2 e0 e1 p0 p1 na
      -- kept
      refine ⟨_, rfl, _, rfl, ?_⟩
      refine ⟨p, a, tags, rfl, p2, ha, to, by omega, e2.2 tb, fun G3 s3 p3 t3 => ?_⟩
      have e3 := ext_hide e2 fp s3 t3
      have ha := word_hide p2 ha s3
      clear s3 e2 p2 t3
      refine ⟨_, rfl, ?_⟩
      refine iteF ?_
      refine ⟨(8 : Int), rfl, by decide, by decide, ?_⟩
      refine for_it (walk_range (lo := 0) (n := 8)) (fun j σ H' => ∃ v4 v5 : Option V, σ = [some (.ref l), some (.int (0 + (i : Int))), some (.ref p), some (.ref a), v4, v5] ∧ QB.Ext (Tof X) H H' ∧ PileAt H' p ∧ WordAt H' a tags)
        ⟨v4, v5, rfl, e3, p3, ha⟩ (fun _ _ _ _ _ => True.intro) ?_ ?_
      · rintro j x σ G4 G5 hj ⟨v4, v5, rfl, e4, p4, ha⟩ ⟨rfl, rfl⟩
        refine ⟨_, rfl, _, rfl, ?_⟩
        refine ⟨p, a, tags, 30, rfl, by decide, p4, ha, to, fun wd q0 G6 hw hwl x6 p6 _ hq => ?_⟩
        have e6 := pg_ext e4 x6 fp p4
        have ha := pg_word x6 p4 ha
        clear x6 p4 e4
        refine ⟨_, rfl, _, _, rfl, rfl, by show (0 : Int) < 2; decide, rfl, _, rfl, ?_⟩
        refine ite_key (fun σ' H' => ∃ (q0 : Addr) (sub : Word), σ' = [some (.ref l), some (.int (0 + (i : Int))), some (.ref p), some (.ref a), some (.int (0 + (j : Int))), some (.ref q0)] ∧ QB.Ext (Tof X) H H' ∧ PileAt H' p ∧ WordAt H' a tags ∧ WordAt H' q0 sub ∧ (∀ t ∈ sub, t ∈ tags) ∧ sub.length ≤ 100) ?_ (fun key _ => ?_) (fun key _ => ?_)
        rotate_left
        · have tpos := to.pos
          have tlen := to.len
          refine ⟨_, rfl, _, rfl, _, rfl, _, _, rfl, .inl (SqL.of ha), ?_⟩
          refine ⟨p, tags.length, by rw [vS_len]; rfl, by omega, by omega, p6, fun r7 G7 hr7 x7 p7 => ?_⟩
          have et : tags[r7]? = some (tags[r7]'hr7) := List.getElem?_eq_getElem hr7
          have htg : tags[r7]'hr7 ∈ tags := List.getElem_mem hr7
          generalize tags[r7]'hr7 = tg at et htg
          have e7 := pg_ext e6 x7 fp p6
          have ha := pg_word x7 p6 ha
          have hq := pg_word x7 p6 hq
          refine ⟨a, _, _, _, rfl, rfl, SqL.of ha, atI_nat (vS_get et), ?_⟩
          refine ⟨by show 1 ≤ sizeLine; decide, fun y hy => ?_⟩
          have yp : y ≠ p := (p7.ne hy).symm
          have sn := same_new (o := .lst [V.str tg]) hy
          have e8 := e7.trans (.of sn)
          have p8 := p7.same sn
          have ha := Same.word sn ha
          have hq := Same.word sn hq
          have qy : WordAt (upd G7 y (.lst [V.str tg])) y [tg] := upd_same
          generalize upd G7 y (.lst [V.str tg]) = G8 at e8 p8 ha hq qy ⊢
          refine ⟨_, rfl, p, 24, rfl, by decide, by decide, p8, fun m G9 hm x9 p9 => ?_⟩
          have e9 := pg_ext e8 x9 fp p8
          have ha := pg_word x9 p8 ha
          have hq := pg_word x9 p8 hq
          have qy := pg_word x9 p8 qy
          refine ⟨y, (m : Int), _, rfl, rfl, qy, by omega, by omega, by rw [Int.toNat_natCast]; exact Nat.le_of_lt (sz_lt (by show 1 * m < _; omega)), fun z hz => ?_⟩
          rw [show (List.replicate (m : Int).toNat (vS [tg])).flatten = vS (List.replicate m tg) from flat_tags m rfl]
          have sn := same_new (o := .lst (vS (List.replicate m tg))) hz
          have e10 := e9.trans (.of sn)
          have p10 := p9.same sn
          have ha := Same.word sn ha
          have hq := Same.word sn hq
          have qz : WordAt (upd G9 z (.lst (vS (List.replicate m tg)))) z (List.replicate m tg) := upd_same
          generalize upd G9 z (.lst (vS (List.replicate m tg))) = G10 at e10 p10 ha hq qz ⊢
          refine ⟨_, rfl, z, q0, _, _, rfl, rfl, qz, hq, by rw [vS_len, vS_len, List.length_replicate]; exact Nat.le_of_lt (sz_lt (by omega)), fun u hu => ?_⟩
          rw [vS_append]
          have sn := same_new (o := .lst (vS (List.replicate m tg ++ wd))) hu
          exact key _ _ ⟨u, List.replicate m tg ++ wd, rfl, e10.trans (.of sn), p10.same sn, Same.word sn ha, upd_same, fun t ht => (List.mem_append.mp ht).elim (fun h => List.eq_of_mem_replicate h ▸ htg) (hw t), by rw [List.length_append, List.length_replicate]; omega⟩
        · exact key _ _ ⟨q0, wd, rfl, e6, p6, ha, hq, hw, by omega⟩
        clear hq hw hwl e6 p6 ha
        rintro σ' G7 ⟨q0, sub, rfl, e7, p7, ha, hq, hw, hwl⟩
        refine ⟨_, rfl, _, rfl, _, rfl, ?_⟩
        refine ⟨p, a, q0, tags, sub, rfl, p7, ha, hq, to, by omega, hw, hwl, e7.2 tb, fun G8 s8 p8 t8 => ?_⟩
        refine ⟨_, rfl, ?_⟩
        refine iteF ?_
        exact ⟨_, _, rfl, ext_hide e7 fp s8 t8, p8, word_hide p7 ha s8⟩
      · rintro σ G4 ⟨v4, v5, rfl, e4, p4, ha⟩
        exact ⟨_, _, _, _, _, rfl, e4⟩
    · rintro σ H1 ⟨v1, v2, v3, v4, v5, rfl, e1⟩
      exact q H1
end
end Law
end

section
set_option Elab.async false
set_option linter.all false
set_option maxRecDepth 100000
set_option maxHeartbeats 0
namespace Law
open PySem PySem.Spec PyProof.Rows L2 LamX QB QM
theorem law_at (w : World) (mg : Str → Option Value) (fa : Addr) (h : Heap) (Y : hk.says w h) (G : h.Ns mainGlobals mg) (hmg : mg ("law" : Str) = some (.ref fa)) :
    ∃ K : PySem.W.Frag, K.In h ∧ QT.LawG PySem.Challenge.rw_subjecttags_k10_whole_makers w K CX0 63 "script" mg fa h := by
  obtain ⟨K, KX, c⟩ := Y
  obtain ⟨X, e1, e2, e3⟩ := tx_mk KX G c.t.d c.more
  have e4 := hmg.symm.trans X.d_law.mg
  have e5 : fa = X.d_law.a := by
    injection e4 with e4
    injection e4
  subst e5
  have hm : (((("without_needless_ways" : Str), (none : Option Str)) : He.Defn)) ∈ tfs := List.mem_singleton.mpr rfl
  have h1 := c.hd _ hm
  have h2 := c.out _ hm
  have h3 := c.empty _ hm
  have c1 : (He.cT K (("without_needless_ways" : Str), (none : Option Str))) = (X.lam_c, X.lam_P) := by rw [e1, e2]; rfl
  rw [c1] at h1 h2 h3
  have hb : ∀ (s : Shared) (u : Value), BindsTo s X.d_law.fd ⟨[u], []⟩ [("script", u)] := by
    obtain ⟨oc, od, kV, doc, pm, an, cdv, ct, osl, hf, _, _⟩ := X.d_law.F.ex
    intro s u
    rw [hf]
    exact .of_eq rfl
  refine ⟨K, KX, X.d_law.fd, [(X.lam_c, X.lam_P)], spLaw K (Tof X), ?_, ?_, ?_, hb, ?_, ?_⟩
  · intro p hp
    rw [List.mem_singleton.mp hp]
    exact h3
  · intro p hp
    rw [List.mem_singleton.mp hp]
    exact h2
  · intro p hp
    rw [List.mem_singleton.mp hp]
    exact PySem.W.codeHd_of_K KX h1
  · intro H a ns hl hT hS
    refine ⟨a, ns, rfl, hS, fun q hq => ?_, fun _ => rfl⟩
    rw [List.mem_singleton.mp hq]
    exact ⟨#[], hT _ (List.mem_singleton.mpr rfl), by simp [TriplesOk], fun pos cv h => by cases h⟩
  · intro base _ _ hB TB
    exact ok_law X (TB _ (List.mem_singleton.mpr rfl)) hB ⟨rfl, by decide, by decide⟩
end Law
open PySem PySem.W PySem.Calls PyProof.Rows
theorem k10_end : PySem.Challenge.rw_subjecttags_k10_whole_makers.Holds := by
  w_on; o_law
  refine HandSHeadRun.head_any (r := Law.R) (q := view Law.R.prog [75]) (H := Law.hk) (ob := Law.ob) (M := 8000) (loose := Law.names) (d := HandSHeadRun.topDef Law.R.prog 75) (kwd := []) Law.ob_eq
    Law.hd1 Law.hd2 Law.run Law.hd3 Law.hd4 Law.hd5 Law.hd6 Law.hd7 Law.hd8 Law.hd9 ?hw ?hc
  case hw => w_witness2
  case hc =>
    refine QT.walk_ofG (l := PySem.Challenge.rw_subjecttags_k10_whole_makers) (n := 63) (x := "script") (CX := fun _ => L2.CX0) rfl (by decide) Law.hd11 Law.hd12 ?F (fun _ _ _ _ _ z => z)
    intro w mg fa h Y G hmg0
    rw [Law.hd10] at hmg0
    exact Law.law_at w mg fa h Y G hmg0
end

theorem PySem.Challenge.cw_subjecttags_k10_whole_makers_holds : PySem.Challenge.rw_subjecttags_k10_whole_makers.Holds := by
  exact k10_end
