import PyProof.Rows.All
import Wide.All
import OpenK.AllK
import Wide.FinOn
import HandS.ForMost
import KE.KeyNested
import HandS.TupLen
import HandS.Lambda
import HandS.Nested
import HandS.Conv
import KE.KLam
import KE.SortKeyHeap
import KE.SortData
import HandS.Walk
import HandS.IsInst
import HandS.Sort
import HandS.OwnEq
import HandS.Exc
import HandS.ExcInit
import HandS.ExcIs
import HandS.ExcField
import HandS.ExcValue
import HandS.SuiteRaise
import KE.KExcIs
import KE.KStateDown
import Lean
import HandS.Base
import HandS.Call
import HandS.Ends
import HandS.More
import HandS.Words
import HandS.WordsExc
import HandS.Defaults
import HandS.Head0
import HandS.Head1
import HandS.Head2
import HandS.HeadEnd
import HandS.HeadHook1
import HandS.HeadHook2
import HandS.HeadHook3
import HandS.HeadHook4
import HandS.HeadWalk
import PyProof.ReprRoads
import PyProof.ReprLen
import HandS.List
import HandS.ExcOwn
import PyProof.NeKinds
import PyProof.StrOps2
import HandS.EndTab
import HandS.Style
import HandS.FStr
import HandS.Iter
import HandS.Codes
import HandS.Text
import HandS.Replace
import HandS.Wide
import PySem.Challenge.RW_subjecttags_k61_eaters_as_text
set_option Elab.async false
section
set_option Elab.async false
set_option linter.all false
set_option maxRecDepth 100000
/-! dicts whose keys are tuples of any depth (None, ints, texts, tuples): get, in, not in, put, made empty -/
namespace QD
open PySem PySem.Spec PyProof.Rows L2

mutual
inductive NV (H : Hp) : NestedKey → V → Prop
  | none : NV H .none .non
  | num (i : Int) : NV H (.num i) (.int i)
  | text (x : Str) : NV H (.text x) (.str x)
  | tup {a : Addr} {vs : List V} {ks : List NestedKey} : H a = some (.tup vs) → NVs H ks vs → NV H (.tup ks) (.ref a)
inductive NVs (H : Hp) : List NestedKey → List V → Prop
  | nil : NVs H [] []
  | cons {k : NestedKey} {v : V} {ks : List NestedKey} {vs : List V} : NV H k v → NVs H ks vs → NVs H (k :: ks) (v :: vs)
end
mutual
theorem NV.to {H H' : Hp} (t : ∀ b xs, H b = some (.tup xs) → H' b = some (.tup xs)) : ∀ (k : NestedKey) (v : V), NV H k v → NV H' k v
  | .none, _, h => by cases h; exact .none
  | .num _, _, h => by cases h; exact .num _
  | .text _, _, h => by cases h; exact .text _
  | .tup ks, _, h => by
    cases h with
    | tup h1 h2 => exact .tup (t _ _ h1) (NVs.to t ks _ h2)
theorem NVs.to {H H' : Hp} (t : ∀ b xs, H b = some (.tup xs) → H' b = some (.tup xs)) : ∀ (ks : List NestedKey) (vs : List V), NVs H ks vs → NVs H' ks vs
  | [], _, h => by cases h; exact .nil
  | k :: ks, _, h => by
    cases h with
    | cons h1 h2 => exact .cons (NV.to t k _ h1) (NVs.to t ks _ h2)
end
section
variable {P : Program} {w : World} {H : Hp} {h : Heap}
mutual
theorem NV.is (ok : HOk P w H h) : ∀ (k : NestedKey) (v : V) (u : Value), NV H k v → RelV v u → NestedIs h k u
  | .none, _, u, n, r => by
    cases n
    have r : u = Value.none := r
    subst r
    exact .none
  | .num _, _, u, n, r => by
    cases n
    obtain ⟨t, r⟩ := r
    subst r
    exact .int _ _
  | .text _, _, u, n, r => by
    cases n
    obtain ⟨t, r⟩ := r
    subst r
    exact .text _ _
  | .tup ks, _, u, n, r => by
    cases n with
    | @tup a vs _ h1 h2 =>
      obtain rfl : u = Value.ref a := r
      obtain ⟨_, its, rv, o, e1, e2, n, e3⟩ := (show ObjOk P w H h a (.tup vs) from ok a _ h1)
      exact .tup e1 e2 e3 (by simpa using NVs.is ok ks vs its h2 rv)
theorem NVs.is (ok : HOk P w H h) : ∀ (ks : List NestedKey) (vs : List V) (us : List Value), NVs H ks vs → Vals vs us → NestedAll h ks us
  | [], _, us, n, r => by
    cases n
    cases r
    exact .nil
  | k :: ks, _, us, n, r => by
    cases n with
    | cons n1 n2 =>
      cases r with
      | cons r1 r2 => exact .cons (NV.is ok k _ _ n1 r1) (NVs.is ok ks _ _ n2 r2)
end
end

/-- what the dict's own object says -/
def Dφ (P : Program) (w : World) (a : Addr) (xs : List (NestedKey × Addr × Value)) : Heap → Prop := fun h =>
  ∃ o es ep, h.get? a = some o ∧ o.ExactDict ∧ o.data = .dict es ep ∧ es.toList = xs.map (entryOfKey (nestedKind P w)) ∧ (xs.map (·.1)).Nodup ∧ xs.length ≤ sizeLine
abbrev Ent (H : Hp) : NestedKey × V → NestedKey × Addr × Value → Prop := fun p q => p.1 = q.1 ∧ NV H p.1 (.ref q.2.1) ∧ p.1.depth ≤ 8 ∧ RelV p.2 q.2.2
/-- at a stands a dict of these keys and values, in their order -/
def DN (P : Program) (w : World) (H : Hp) (a : Addr) (kvs : List (NestedKey × V)) : Prop :=
  (a == sysModules) = false ∧ ∃ xs, H a = some (.ext (Dφ P w a xs)) ∧ Paired (Ent H) kvs xs

theorem DN.to {P : Program} {w : World} {H H' : Hp} {a : Addr} {kvs : List (NestedKey × V)} (d : DN P w H a kvs) (t : ∀ b xs, H b = some (.tup xs) → H' b = some (.tup xs)) (e : H' a = H a) : DN P w H' a kvs := by
  obtain ⟨n, xs, h1, h2⟩ := d
  exact ⟨n, xs, by rw [e]; exact h1, Paired.mapP h2 fun p q z => ⟨z.1, z.2.1.to t, z.2.2⟩⟩

section
variable {H : Hp}
theorem ent_val {kvs : List (NestedKey × V)} {xs : List (NestedKey × Addr × Value)} (r : Paired (Ent H) kvs xs) (k : NestedKey) : RelO (valV kvs k) ((atKey xs k).map (·.2)) := by
  induction r with
  | nil => exact True.intro
  | @cons p q ps qs h t ih =>
    obtain ⟨h1, _, _, h2⟩ := h
    by_cases e : p.1 = k
    · have e' : q.1 = k := h1.symm.trans e
      have b : atKey (q :: qs) k = some q.2 := by simp [atKey, List.find?_cons, e']
      rw [valV_pos e, b]
      exact h2
    · have e' : ¬ q.1 = k := fun z => e (h1.trans z)
      have b : atKey (q :: qs) k = atKey qs k := by simp [atKey, List.find?_cons, e']
      rw [valV_neg e, b]
      exact ih
theorem ent_repl {kvs : List (NestedKey × V)} {xs : List (NestedKey × Addr × Value)} (r : Paired (Ent H) kvs xs) (k : NestedKey) {y : V} {u : Value} (ry : RelV y u) :
    Paired (Ent H) (kvs.map fun kv => if kv.1 = k then (kv.1, y) else kv) (xs.map (putAt k u)) := by
  induction r with
  | nil => exact .nil
  | @cons p q ps qs h t ih =>
    rw [List.map_cons, List.map_cons]
    refine .cons ?_ ih
    obtain ⟨h1, h2, h3, h4⟩ := h
    unfold putAt
    by_cases e : p.1 = k
    · rw [if_pos e, if_pos (h1.symm.trans e)]
      exact ⟨h1, h2, h3, ry⟩
    · rw [if_neg e, if_neg (fun z => e (h1.trans z))]
      exact ⟨h1, h2, h3, h4⟩
theorem ent_put {kvs : List (NestedKey × V)} {xs : List (NestedKey × Addr × Value)} (r : Paired (Ent H) kvs xs) (k : NestedKey) {b : Addr} {y : V} {u : Value} (hb : NV H k (.ref b)) (hd : k.depth ≤ 8) (ry : RelV y u) :
    Paired (Ent H) (putK kvs k y) (storedH xs k b u) := by
  have e : (kvs.any fun kv => decide (kv.1 = k)) = (atKey xs k).isSome := by
    rw [valV_any, (ent_val r k).isSome_eq, Option.isSome_map]
  unfold putK storedH
  rw [e]
  by_cases q : (atKey xs k).isSome = true
  · rw [if_pos q, if_pos q]
    exact ent_repl r k ry
  · rw [if_neg q, if_neg q]
    exact Paired.snoc r ⟨rfl, hb, hd, ry⟩
end

section
variable {P : Program} {w : World} {H : Hp} {h : Heap} {a : Addr} {kvs : List (NestedKey × V)}
theorem ent_is (ok : HOk P w H h) {xs : List (NestedKey × Addr × Value)} (r : Paired (Ent H) kvs xs) : ∀ x ∈ xs, (nestedKind P w).is h x.1 x.2.1 := by
  induction r with
  | nil => intro x hx; exact nomatch hx
  | @cons p q ps qs hq t ih =>
    intro x hx
    rcases List.mem_cons.mp hx with e | hx
    · subst e
      obtain ⟨e1, e2, e3, _⟩ := hq
      rw [e1] at e2 e3
      exact ⟨NV.is ok _ _ _ e2 rfl, e3⟩
    · exact ih x hx
theorem dn_of (ok : HOk P w H h) {xs : List (NestedKey × Addr × Value)} (e : H a = some (.ext (Dφ P w a xs))) (r : Paired (Ent H) kvs xs) : h.DictOfH (nestedKind P w) a xs ∧ xs.length ≤ sizeLine := by
  obtain ⟨⟨o, es, ep, h1, h2, h3, h4, h5, h6⟩, _, _⟩ := ok a _ e
  exact ⟨⟨o, es, ep, h1, h2, h3, h4, ent_is ok r, h5⟩, h6⟩
theorem key_is (ok : HOk P w H h) {k : NestedKey} {b : Addr} (n : NV H k (.ref b)) (hd : k.depth ≤ 8) : (nestedKind P w).is h k b := ⟨NV.is ok _ _ _ n rfl, hd⟩
theorem dn_ok {h' : Heap} {H' : Hp} {xs : List (NestedKey × Addr × Value)} (d : h'.DictOfH (nestedKind P w) a xs) (z : xs.length ≤ sizeLine) : ObjOk P w H' h' a (.ext (Dφ P w a xs)) := by
  obtain ⟨o, es, ep, h1, h2, h3, h4, _, h5⟩ := d
  exact ⟨⟨o, es, ep, h1, h2, h3, h4, h5, z⟩, ⟨o, h1⟩, fun g1 g2 ⟨o, es, ep, k1, k2⟩ st => ⟨o, es, ep, st _ k1, k2⟩⟩
end

section
variable {X : Cx} {o i value : Expr} {td ty tv : TE} {pos pos' : Pos}
/-- {} -/
def tNewN (X : Cx) : TE := fun _ H Q => ∀ p H', H p = none → (∀ b, b ≠ p → H' b = H b) → DN X.prog X.w H' p [] → H' p ≠ none → Q (.ref p) H'
theorem pe_newN : PE X (.Dict [] [] pos) (tNewN X) := ⟨fun pins s σ H Q I h => by
  have nm : (s.heap.objs.size == sysModules) = false := by
    have q := I.big
    refine beq_eq_false_iff_ne.mpr fun e => ?_
    rw [show s.heap.objs.size = sysModules from e] at q
    exact Nat.lt_irrefl _ q
  have new : ObjOk X.prog X.w (upd H s.heap.objs.size (.ext (Dφ X.prog X.w s.heap.objs.size []))) (s.heap.push { cls := .type "dict", data := .dict #[] }) s.heap.objs.size (.ext (Dφ X.prog X.w s.heap.objs.size [])) :=
    dn_ok (Heap.DictOfH.new s.heap) (Nat.zero_le _)
  exact wpAny_Dict_empty ⟨.ref s.heap.objs.size, _, I.laid (a := s.heap.objs.size) (t' := s.toks) (fun _ _ q => Heap.get?_push_of_some _ q) (Nat.le_refl _) new, rfl,
    h _ _ (I.hok.fresh (Nat.le_refl _)) (fun b hb => upd_ne hb) ⟨nm, [], upd_same, .nil⟩ (by rw [upd_same]; exact fun z => nomatch z)⟩⟩

/-- d[k], there; k in d; k not in d -/
def tGetN (X : Cx) (td ty : TE) : TE := fun σ H Q => td σ H fun x H1 => ty σ H1 fun y H2 => ∃ a b kvs k v, x = .ref a ∧ y = .ref b ∧ DN X.prog X.w H2 a kvs ∧ NV H2 k (.ref b) ∧ k.depth ≤ 8 ∧ valV kvs k = some v ∧ Q v H2
def tInN (X : Cx) (neg : Bool) (ty td : TE) : TE := fun σ H Q => ty σ H fun y H1 => td σ H1 fun x H2 => ∃ a b kvs k, x = .ref a ∧ y = .ref b ∧ DN X.prog X.w H2 a kvs ∧ NV H2 k (.ref b) ∧ k.depth ≤ 8 ∧ Q (.bl (if neg then !(valV kvs k).isSome else (valV kvs k).isSome)) H2
theorem room_in1 {A : Around} {P : Program} {w : World} (hu : A.units + 64 < cLine) : (nestedKind P w).room A.in1 := by
  show A.units + 1 + 8 < cLine
  omega
theorem pe_getN (hu : X.A.units + 64 < cLine) (ho : PE X o td) (hi : PE X i ty) (hs : NoSl i) : PE X (.Subscript o i pos) (tGetN X td ty) := by
  refine ⟨fun pins s σ H Q I h => ?_⟩
  refine subD_of PySem.F.slot_dict_getitem.lookup hs (thn (ho.run pins s σ H _ I h) fun u s1 ⟨x, H1, I1, rx, q1⟩ => thn (hi.run pins s1 σ H1 _ I1 q1) fun iv s2 ⟨y, H2, I2, ry, a, b, kvs, k, v, ex, ey, ⟨nm, xs, d1, d2⟩, n, kd, hv, q2⟩ => ?_)
  subst ex ey
  obtain rfl : u = Value.ref a := rx
  obtain rfl : iv = Value.ref b := ry
  obtain ⟨dd, z⟩ := dn_of I2.hok d1 d2
  refine ⟨dd.typeIs, ?_⟩
  obtain ⟨w', hw, rw'⟩ := RelO.some_of (v := v) (o := (atKey xs k).map (·.2)) (by rw [← hv]; exact ent_val d2 k)
  obtain ⟨p, hp, hp2⟩ := Option.map_eq_some_iff.mp hw
  refine wpAny_getItem_heap (room_in1 hu) (key_is I2.hok n kd) dd hp ?_
  rw [hp2]
  exact ⟨v, H2, I2.tok _, rw', q2⟩
theorem pc_inN (hu : X.A.units + 64 < cLine) (hi : PE X i ty) (ho : PE X o td) : PC X .In i o (tInN X false ty td) := by
  refine ⟨fun pins s σ H Q I h => ?_⟩
  refine thn (hi.run pins s σ H _ I h) fun iv s1 ⟨y, H1, I1, ry, q1⟩ => thn (ho.run pins s1 σ H1 _ I1 q1) fun u s2 ⟨x, H2, I2, rx, a, b, kvs, k, ex, ey, ⟨nm, xs, d1, d2⟩, n, kd, q2⟩ => ?_
  subst ex ey
  obtain rfl : u = Value.ref a := rx
  obtain rfl : iv = Value.ref b := ry
  obtain ⟨dd, z⟩ := dn_of I2.hok d1 d2
  refine wpAny_in_heap (room_in1 hu) (key_is I2.hok n kd) nm dd ⟨.bl (atKey xs k).isSome, H2, I2.tok _, rfl, ?_⟩
  have e := (ent_val d2 k).isSome_eq
  rw [Option.isSome_map] at e
  rw [← e]
  exact q2
theorem pc_notinN (hu : X.A.units + 64 < cLine) (hi : PE X i ty) (ho : PE X o td) : PC X .NotIn i o (tInN X true ty td) := by
  refine ⟨fun pins s σ H Q I h => ?_⟩
  refine thn (hi.run pins s σ H _ I h) fun iv s1 ⟨y, H1, I1, ry, q1⟩ => thn (ho.run pins s1 σ H1 _ I1 q1) fun u s2 ⟨x, H2, I2, rx, a, b, kvs, k, ex, ey, ⟨nm, xs, d1, d2⟩, n, kd, q2⟩ => ?_
  subst ex ey
  obtain rfl : u = Value.ref a := rx
  obtain rfl : iv = Value.ref b := ry
  obtain ⟨dd, z⟩ := dn_of I2.hok d1 d2
  refine wpAny_notIn_heap (room_in1 hu) (key_is I2.hok n kd) nm dd ⟨.bl (!(atKey xs k).isSome), H2, I2.tok _, rfl, ?_⟩
  have e := (ent_val d2 k).isSome_eq
  rw [Option.isSome_map] at e
  rw [← e]
  exact q2
/-- d[k] = v -/
def sPutN (X : Cx) (td ty tv : TE) : TS := fun D σ H => tv σ H fun v H1 => td σ H1 fun x H2 => ty σ H2 fun y H3 => ∃ a b kvs k, x = .ref a ∧ y = .ref b ∧ DN X.prog X.w H3 a kvs ∧ NV H3 k (.ref b) ∧ k.depth ≤ 8 ∧ kvs.length < sizeLine ∧
  ∀ H4, (∀ c, c ≠ a → H4 c = H3 c) → DN X.prog X.w H4 a (putK kvs k v) → H4 a ≠ none → D.nx σ H4
theorem ps_putN (hu : X.A.units + 64 < cLine) (ho : PE X o td) (hi : PE X i ty) (hv : PE X value tv) (hs : swapsWith value (some (.Subscript o i pos')) pos.line X.env = pure false) :
    PS X (.Assign [.Subscript o i pos'] value pos) (sPutN X td ty tv) := by
  refine ⟨fun pins s σ H D I h => ?_⟩
  refine wpAny_Assign_Subscript (thn (hv.run pins s σ H _ I h) fun r s1 ⟨v, H1, I1, rv, q1⟩ => thn (ho.run pins s1 σ H1 _ I1 q1) fun u s2 ⟨x, H2, I2, rx, q2⟩ => thn (hi.run pins s2 σ H2 _ I2 q2) fun iv s3 ⟨y, H3, I3, ry, a, b, kvs, k, ex, ey, ⟨nm, xs, d1, d2⟩, n, kd, hl, q3⟩ => ?_) hs
  subst ex ey
  obtain rfl : u = Value.ref a := rx
  obtain rfl : iv = Value.ref b := ry
  obtain ⟨dd, z⟩ := dn_of I3.hok d1 d2
  refine wpAny_setItem_heap (hsz := z) (room_in1 hu) (key_is I3.hok n kd) dd fun h' dd' hs => ?_
  have ep := ent_put d2 k n kd (y := v) (u := r) rv
  have hl' : (storedH xs k b r).length ≤ sizeLine := by
    rw [← Paired.length ep]
    have := length_putK kvs k v
    omega
  have tk : ∀ c ys, H3 c = some (.tup ys) → upd H3 a (.ext (Dφ X.prog X.w a (storedH xs k b r))) c = some (.tup ys) := fun c ys e => by
    rw [upd_ne (ne_of e d1 (fun z => nomatch z))]
    exact e
  have he : ∃ q, h'.get? a = some q := let ⟨q, _, _, hq, _⟩ := dd'; ⟨q, hq⟩
  refine ⟨σ, _, d_write (ob := .ext (Dφ X.prog X.w a (storedH xs k b r))) I3 (by rw [d1]; exact True.intro) hs he (dn_ok dd' hl'), ?_⟩
  exact q3 _ (fun c hc => upd_ne hc) ⟨nm, _, upd_same, Paired.mapP ep fun p q e => ⟨e.1, e.2.1.to tk, e.2.2⟩⟩ (by rw [upd_same]; exact fun z => nomatch z)
/-- len(d) -/
theorem call_lenN : CallR X (.builtin "len") (fun xs H Q => ∃ a kvs, xs = [.ref a] ∧ DN X.prog X.w H a kvs ∧ Q (.int (kvs.length : Int)) H) := by
  intro pins s σ H xs us Q I r h
  obtain ⟨a, kvs, rfl, ⟨nm, ys, d1, d2⟩, q⟩ := h
  obtain ⟨u, rfl, ru⟩ := vals1 r
  obtain rfl : u = Value.ref a := ru
  obtain ⟨dd, z⟩ := dn_of I.hok d1 d2
  have hl : kvs.length = ys.length := Paired.length d2
  have hn := line63
  refine call_len_dictH nm dd (by omega) ⟨.int (kvs.length : Int), H, I.tok _, ⟨s.toks + 1, ?_⟩, q⟩
  rw [hl]
end

/-! ### keys numbered as they come -/
section
variable {κ : Type} [DecidableEq κ]
def dictFrom : Nat → List κ → List (κ × V)
  | _, [] => []
  | n, k :: r => (k, .int (n : Int)) :: dictFrom (n + 1) r
theorem dictFrom_len : ∀ (l : List κ) (n : Nat), (dictFrom n l).length = l.length
  | [], _ => rfl
  | _ :: l, n => congrArg (· + 1) (dictFrom_len l (n + 1))
theorem dictFrom_snoc (k : κ) : ∀ (l : List κ) (n : Nat), dictFrom n (l ++ [k]) = dictFrom n l ++ [(k, .int ((n + l.length : Nat) : Int))]
  | [], n => rfl
  | x :: l, n => by
    show (x, V.int (n : Int)) :: dictFrom (n + 1) (l ++ [k]) = (x, V.int (n : Int)) :: (dictFrom (n + 1) l ++ [(k, .int ((n + (x :: l).length : Nat) : Int))])
    rw [dictFrom_snoc k l (n + 1), List.length_cons, Nat.add_right_comm n 1, Nat.add_assoc]
theorem valV_dictFrom (k : κ) : ∀ (l : List κ) (n : Nat), valV (dictFrom n l) k = if k ∈ l then some (.int ((n + l.idxOf k : Nat) : Int)) else none
  | [], _ => rfl
  | x :: l, n => by
    show valV ((x, V.int (n : Int)) :: dictFrom (n + 1) l) k = _
    by_cases e : x = k
    · subst e
      rw [valV_pos rfl, if_pos List.mem_cons_self]
      simp
    · rw [valV_neg e, valV_dictFrom k l (n + 1)]
      by_cases h : k ∈ l
      · rw [if_pos h, if_pos (List.mem_cons_of_mem _ h), List.idxOf_cons]
        simp only [beq_eq_false_iff_ne.mpr e, cond_false]
        congr 2
        omega
      · rw [if_neg h, if_neg (by simp [h, Ne.symm e])]
theorem putK_dictFrom {k : κ} {l : List κ} {n : Nat} (h : k ∉ l) : putK (dictFrom n l) k (.int ((n + l.length : Nat) : Int)) = dictFrom n (l ++ [k]) := by
  unfold putK
  rw [valV_any, valV_dictFrom, if_neg h, dictFrom_snoc]
  rfl
/-- the different ones, as they come -/
def addSeen (seen : List κ) (m : κ) : List κ := if m ∈ seen then seen else seen ++ [m]
def seenOf (ms : List κ) : List κ := ms.foldl addSeen []
theorem seenOf_snoc (ms : List κ) (m : κ) : seenOf (ms ++ [m]) = addSeen (seenOf ms) m := by
  unfold seenOf
  rw [List.foldl_append]
  rfl
theorem addSeen_mem (seen : List κ) (m : κ) : m ∈ addSeen seen m := by
  unfold addSeen
  split
  · assumption
  · simp
theorem addSeen_pre (seen : List κ) (m : κ) : ∃ t, addSeen seen m = seen ++ t := by
  unfold addSeen
  split
  · exact ⟨[], by simp⟩
  · exact ⟨[m], rfl⟩
theorem foldl_pre (ms : List κ) : ∀ seen : List κ, ∃ t, ms.foldl addSeen seen = seen ++ t := by
  induction ms with
  | nil => exact fun seen => ⟨[], by simp⟩
  | cons m ms ih =>
    intro seen
    obtain ⟨t1, e1⟩ := addSeen_pre seen m
    obtain ⟨t2, e2⟩ := ih (addSeen seen m)
    exact ⟨t1 ++ t2, by rw [List.foldl_cons, e2, e1, List.append_assoc]⟩
theorem mem_seenOf (ms : List κ) : ∀ m, m ∈ seenOf ms ↔ m ∈ ms := by
  have all : ∀ (ms seen : List κ) (m : κ), m ∈ ms.foldl addSeen seen ↔ m ∈ seen ∨ m ∈ ms := by
    intro ms
    induction ms with
    | nil => intro seen m; simp
    | cons x ms ih =>
      intro seen m
      rw [List.foldl_cons, ih]
      unfold addSeen
      by_cases h : x ∈ seen
      · rw [if_pos h, List.mem_cons]
        constructor
        · rintro (h1 | h1)
          · exact .inl h1
          · exact .inr (.inr h1)
        · rintro (h1 | rfl | h1)
          · exact .inl h1
          · exact .inl h
          · exact .inr h1
      · rw [if_neg h, List.mem_append, List.mem_singleton, List.mem_cons, or_assoc]
  intro m
  unfold seenOf
  rw [all]
  simp
theorem seenOf_nodup (ms : List κ) : (seenOf ms).Nodup := by
  have all : ∀ (ms seen : List κ), seen.Nodup → (ms.foldl addSeen seen).Nodup := by
    intro ms
    induction ms with
    | nil => exact fun _ h => h
    | cons x ms ih =>
      intro seen h
      refine ih _ ?_
      unfold addSeen
      split
      · exact h
      · rename_i hx
        rw [List.nodup_append]
        exact ⟨h, by simp, fun a ha b hb => by rw [List.mem_singleton.mp hb]; exact fun e => hx (e ▸ ha)⟩
  exact all ms [] List.nodup_nil
theorem idxOf_pre {seen t : List κ} {m : κ} (h : m ∈ seen) : (seen ++ t).idxOf m = seen.idxOf m := by
  rw [List.idxOf_append, if_pos h]
def numb (ms : List κ) : List Nat := ms.map fun m => (seenOf ms).idxOf m
theorem numb_len (ms : List κ) : (numb ms).length = ms.length := List.length_map _
/-- one more -/
theorem numb_snoc (ms : List κ) (m : κ) : numb (ms ++ [m]) = numb ms ++ [(addSeen (seenOf ms) m).idxOf m] := by
  unfold numb
  rw [List.map_append, seenOf_snoc]
  refine congrArg (· ++ _) (List.map_congr_left fun x hx => ?_)
  obtain ⟨t, e⟩ := addSeen_pre (seenOf ms) m
  rw [e, idxOf_pre ((mem_seenOf ms x).mpr hx)]
theorem seenOf_len (ms : List κ) : (seenOf ms).length ≤ ms.length := by
  have all : ∀ (ms seen : List κ), (ms.foldl addSeen seen).length ≤ seen.length + ms.length := by
    intro ms
    induction ms with
    | nil => intro _; exact Nat.le_refl _
    | cons x ms ih =>
      intro seen
      have h := ih (addSeen seen x)
      have h2 : (addSeen seen x).length ≤ seen.length + 1 := by
        unfold addSeen
        split
        · omega
        · simp
      rw [List.foldl_cons, List.length_cons]
      omega
  have := all ms []
  rw [List.length_nil, Nat.zero_add] at this
  exact this
theorem idxOf_map_inj {α : Type} [DecidableEq α] (f : α → κ) (hf : ∀ a b, f a = f b → a = b) (a : α) : ∀ l : List α, (l.map f).idxOf (f a) = l.idxOf a
  | [] => rfl
  | x :: l => by
    rw [List.map_cons, List.idxOf_cons, List.idxOf_cons, idxOf_map_inj f hf a l]
    by_cases e : x = a
    · rw [e, beq_self_eq_true, beq_self_eq_true]
    · rw [beq_eq_false_iff_ne.mpr e, beq_eq_false_iff_ne.mpr fun z => e (hf _ _ z)]
end
end QD
end

section
set_option Elab.async false
set_option linter.all false
set_option maxRecDepth 100000
set_option maxHeartbeats 2000000
/-! sorted(range(n), key=lambda number: -len(rows[number][0])) -/
namespace QL
open PySem PySem.Spec PyProof.Rows L2

abbrev lamArgs (x : Str) (p : Pos) : Arguments := { posonlyargs := [], args := [{ arg := x, annotation := none, pos := p }], vararg := none, kwonlyargs := [], kw_defaults := [], kwarg := none, defaults := [] }
abbrev lamBody (x rows : Str) (p1 p2 p3 p4 p5 p6 p7 p8 : Pos) : Expr :=
  .UnaryOp .USub (.Call (.Name "len" p1) [.Subscript (.Subscript (.Name rows p2) (.Name x p3) p4) (.Constant (.int 0) 0 p5) p6] [] p7) p8
abbrev lamScope (x rows : Str) : Scope := { kind := .function, names := [(x, .local), (rows, .free), ("len", .globalImplicit)], isGenerator := false, isCoroutine := false, more := [] }

theorem ls_x : (lamScope ("number" : Str) ("standings" : Str)).names.lookup ("number" : Str) = some .local := by decide +kernel
theorem ls_r : (lamScope ("number" : Str) ("standings" : Str)).names.lookup ("standings" : Str) = some .free := by decide +kernel
theorem ls_l : (lamScope ("number" : Str) ("standings" : Str)).names.lookup ("len" : Str) = some .globalImplicit := by decide +kernel
theorem ls_c : ∀ x ∈ (lamScope ("number" : Str) ("standings" : Str)).names, x.2 ≠ .cell := by decide +kernel
theorem isList_keeps {h h' : Heap} {a : Addr} {xs : Array Value} (x : h.IsList a xs) (k : ∀ b o, h.get? b = some o → h'.get? b = some o) : h'.IsList a xs := by
  obtain ⟨o, ho, r⟩ := x
  exact ⟨o, k _ _ ho, r⟩
section
variable {prog : Program} {w : World} {A : Around} {s : Shared} {mg mb : Str → Option Value} {f c c' a t wd : Addr} {q : Str} {cl : List (Str × Addr)} {pm ctv : Value} {p0 p1 p2 p3 p4 p5 p6 p7 p8 : Pos} {its tits wits : List Value} {n : Nat} {tk : Tok}
theorem body_runs {env : Env} {E : Value → Shared → Prop} {Q : Value → Shared → Prop}
    (hk : env.scope.kind = .function) (hgl : env.globals = mainGlobals) (hbl : env.builtins = builtinsNs) (k1 : env.kindOf "number" = some .local) (k2 : env.kindOf "standings" = some .free) (k3 : env.kindOf "len" = some .globalImplicit)
    (hn : s.heap.Ns env.locals fun y => if y = ("number" : Str) then some (.int n tk) else none) (hc : env.cells.lookup ("standings" : Str) = some c) (hcell : s.heap.IsCell c (some (.ref a)))
    (hg : s.heap.Ns mainGlobals mg) (hm : mg ("len" : Str) = none) (hb : s.heap.Ns builtinsNs mb) (hv : mb ("len" : Str) = some (.builtin "len"))
    (hl : s.heap.IsList a its.toArray) (hi : its[n]? = some (.ref t)) (ht : IsTup s.heap t tits.toArray) (hw : tits[0]? = some (.ref wd)) (hwl : s.heap.IsList wd wits.toArray)
    (hz : its.length ≤ sizeLine) (hzt : tits.length ≤ sizeLine) (hz2 : wits.length ≤ sizeLine)
    (hQ : ∀ tk t', Q (.int (-(wits.length : Int)) t') { s with toks := tk }) :
    wpAny (model prog w) A (eval (lamBody ("number" : Str) ("standings" : Str) p1 p2 p3 p4 p5 p6 p7 p8) env) Q E s := by
  have hn63 := line63
  refine UnaryOp_ ?_
  refine wpAny_Call_Name_kw (Calls.Name_function_global hk k3 (Calls.loadGlobal_builtin (by rw [hgl]; exact hg) hm (by rw [hbl]; exact hb) hv ?_))
  refine PyProof.Rows.callWith_builtin1 (args_cons ?_) (by rfl) (by rfl)
  refine Subscript_ (Subscript_ ?_)
  refine wpAny_Name (wpAny_loadName_free hk k2 hc hcell ?_)
  refine wpAny_Name (wpAny_loadName_local (v := .int n tk) hk k1 hn (by rw [if_pos rfl]) ?_)
  have hlt : n < its.length := (List.getElem?_eq_some_iff.mp hi).1
  refine item_listR hl (by omega) (by omega) (x := .ref t) (by simpa using hi) ?_
  refine wpAny_Constant_int ?_
  have h0 : 0 < tits.length := (List.getElem?_eq_some_iff.mp hw).1
  refine subscriptTail_builtinR (x := .ref wd) ht.typeIs slot_tuple_getitem.lookup
    (getItem_tuple (j := 0) (Q := fun r s' => r = .ref wd ∧ _) ht (by omega) (by omega) (by rw [List.size_toArray]; exact seqIndex_of (Int.le_refl 0) (by omega)) (by simpa using hw) ⟨rfl, ?_⟩)
  refine args_nil ?_
  refine Calls.call_len_list hwl (by rw [List.size_toArray]; omega) ?_
  refine neg_int ?_
  rw [List.size_toArray]
  exact hQ _ _

/-- the lambda called -/
theorem lam_call (hf : s.heap.get? f = some (PySem.W.kla_obj "<lambda>" q (lamArgs ("number" : Str) p0) (lamBody ("number" : Str) ("standings" : Str) p1 p2 p3 p4 p5 p6 p7 p8) (lamScope ("number" : Str) ("standings" : Str)) cl pm c' ctv))
    (hcd : s.heap.CodeRec (.ref c') q) (hroom : A.depth < recursionLimit) (hlim : s.heap.NoLimit)
    (hc : cl.lookup ("standings" : Str) = some c) (hcell : s.heap.IsCell c (some (.ref a)))
    (hg : s.heap.Ns mainGlobals mg) (hm : mg ("len" : Str) = none) (hb : s.heap.Ns builtinsNs mb) (hv : mb ("len" : Str) = some (.builtin "len"))
    (hl : s.heap.IsList a its.toArray) (hi : its[n]? = some (.ref t)) (ht : IsTup s.heap t tits.toArray) (hw : tits[0]? = some (.ref wd)) (hwl : s.heap.IsList wd wits.toArray)
    (hz : its.length ≤ sizeLine) (hzt : tits.length ≤ sizeLine) (hz2 : wits.length ≤ sizeLine) :
    wpAny (model prog w) A (call (.ref f) [.int n tk]) (PySem.W.KeyPure (.int (-(wits.length : Int))) s) (fun _ _ => False) s := by
  refine wpAny_call ?_
  refine PySem.W.kla_callFunE hroom hf rfl rfl rfl rfl hcd ?_
  have eb : bindArgs (PySem.W.kla_fn "<lambda>" q (lamArgs ("number" : Str) p0) (lamBody ("number" : Str) ("standings" : Str) p1 p2 p3 p4 p5 p6 p7 p8) (lamScope ("number" : Str) ("standings" : Str)) cl pm (.ref c') ctv) ⟨[.int n tk], []⟩ = pure [(("number" : Str), .int n tk)] := rfl
  rw [eb]
  refine wpAny_pure (wpAny_newFunctionEnv ls_c (fun y hy => by
    rw [List.mem_singleton.mp hy]
    exact ls_x) (fun h₁ hns hsb => ⟨hlim.fresh _ hsb, ?_⟩) rfl)
  have kp : ∀ b o, s.heap.get? b = some o → h₁.get? b = some o := fun b o e => hsb.extBut b o (Nat.ne_of_lt (Heap.lt_size e)) (Heap.get?_push_of_some _ e)
  refine PySem.W.kla_codeExpr ?_
  have hns' : h₁.Ns s.heap.objs.size fun y => if y = ("number" : Str) then some (.int n tk) else none := by
    have e : (fun y => ([(("number" : Str), Value.int n tk)] : List (Str × Value)).reverse.lookup y) = fun y => if y = ("number" : Str) then some (.int n tk) else none := by
      funext y
      show List.lookup y [(("number" : Str), Value.int n tk)] = _
      rw [List.lookup_cons]
      by_cases hy : y = ("number" : Str)
      · rw [if_pos hy, hy]; simp
      · rw [if_neg hy, beq_eq_false_iff_ne.mpr hy]; rfl
    rw [← e]
    exact hns
  refine body_runs (s := { s with heap := h₁, toks := s.toks + 1 }) rfl rfl rfl ls_x ls_r ls_l hns' hc ?_ (hg.keeps kp) hm (hb.keeps kp) hv (isList_keeps hl kp) hi (ht.keeps kp) hw (isList_keeps hwl kp) hz hzt hz2 fun tk2 t2 => ?_
  · obtain ⟨o, ho, hd⟩ := hcell
    exact ⟨o, kp _ _ ho, hd⟩
  · exact ⟨h₁, tk2, rfl, kp, .int _ _⟩
end

section
variable {prog : Program} {w : World} {A : Around} {E : Value → Shared → Prop} {s : Shared} {r f : Addr} {t u v : Tok} {n : Nat}
abbrev IsN (x : Value) (i : Nat) : Prop := ∃ t, x = .int (i : Int) t
theorem each_ints {R : Value → Nat → Prop} : ∀ (l : List Value) (k : Nat), (∀ j x, l[j]? = some x → R x (k + j)) → PySem.W.EachIs R l (List.range' k l.length)
  | [], k, _ => .nil
  | x :: l, k, h => by
    rw [List.length_cons, List.range'_succ]
    refine .cons (by simpa using h 0 x rfl) (each_ints l (k + 1) fun j y e => ?_)
    have := h (j + 1) y (by simpa using e)
    rwa [Nat.add_assoc, Nat.add_comm 1 j]
theorem sorted_range_key {Q : Value → Shared → Prop} (key : Nat → Int) (hh : A.handled = none) (hr : IsRange s.heap r 0 (n : Int) 1 t u v) (hn : n ≤ 100000) (hu : A.units + 10 < cLine)
    (turn : ∀ (i : Nat) (tk : Tok), i < n → ∀ (h : Heap) (tk0 : Nat), (∀ b o, s.heap.get? b = some o → h.get? b = some o) →
      wpAny (model prog w) A.in1.in1 (call (.ref f) [.int i tk]) (PySem.W.KeyPure (.int (key i)) { s with heap := h, toks := tk0 }) (fun _ _ => False) { s with heap := h, toks := tk0 })
    (h : ∀ (out : List Value) (c : Nat) (h1 h' : Heap) (tk : Nat), (∀ b o, s.heap.get? b = some o → h1.get? b = some o) → (∀ b o, h1.get? b = some o → h'.get? b = some o) → h'.get? h1.objs.size = some (seqObj "list" out.toArray c) →
      PySem.W.EachIs IsN out ((List.range n).mergeSort fun i j => decide (key i ≤ key j)) → Q (.ref h1.objs.size) { s with heap := h', toks := tk }) :
    wpAny (model prog w) A (call (.builtin "sorted") [.ref r] [(Str.ofString "key", .ref f)]) Q E s := by
  have hsz := sizeLine_eq
  refine call_function_entry_kw kind_sorted plain_sorted entry_sorted (ksk_s1 _ _) ?_
  unfold Builtin.«sorted»
  refine wpAny_bind (m := checkCount "sorted" 1 1 _) (wpAny_pure ?_)
  have hrs : Builtin.Range.rangeSize 0 (n : Int) 1 = n := by
    unfold Builtin.Range.rangeSize
    simp
    omega
  have hsm : Builtin.Range.small 0 (n : Int) 1 = true := by
    unfold Builtin.Range.small
    rw [hrs]
    simp [Builtin.Range.rangeFitsLong]
    omega
  refine wpAny_bind (collect_range (A := A.in1) hh hr hsm hrs (by omega) fun h1 tk1 acc k1 hi => ?_)
  have hal : acc.toList.length = n := by rw [Array.length_toList]; exact hi.1
  refine wpAny_bind (wpAny_newList ?_ (by rw [hal]; omega))
  have hL : (h1.push (seqObj "list" acc.toList.toArray 0)).get? h1.objs.size = some (seqObj "list" acc.toList.toArray 0) := Heap.get?_push_size _ rfl
  have k2 : ∀ b o, s.heap.get? b = some o → (h1.push (seqObj "list" acc.toList.toArray 0)).get? b = some o := fun b o e => Heap.get?_push_of_some _ (k1 b o e)
  have ebs : PySem.W.EachIs IsN acc.toList (List.range n) := by
    have e := each_ints (R := IsN) acc.toList 0 fun j x hx => ?_
    · rw [hal, ← List.range_eq_range'] at e
      exact e
    · obtain ⟨t, ht⟩ := hi.2 j x (by simpa using hx)
      exact ⟨t, by rw [ht, Int.mul_one, Int.zero_add, Nat.zero_add]⟩
  refine wpAny_bind (wpAny_holding (wpAny_call_entry_kw slot_list_sort ⟨_, hL, rfl⟩ entry_list_sort ?_ (ksk_l1 _ _)))
  rw [ksk_t1]
  have up : ∀ {g : Heap}, PySem.W.KeepsBut h1.objs.size (h1.push (seqObj "list" acc.toList.toArray 0)) g → ∀ b o, h1.get? b = some o → g.get? b = some o := fun {g} kp b o e =>
    kp b o (Nat.ne_of_lt (Heap.lt_size e)) (Heap.get?_push_of_some _ e)
  refine PySem.W.keyH_tree (kz := (List.range n).map fun i => PyData.int (key i)) hL (by rw [List.length_map, List.length_range, hal]) (by rw [hal]; omega) (PySem.W.AllAlike.of fun i j => rfl) (PySem.W.Sortable.others fun i => ⟨(fun z => nomatch z), fun xs z => nomatch z⟩) (fun d hd => ?_)
    (PySem.W.keyH_turns (s := { s with heap := h1.push (seqObj "list" acc.toList.toArray 0), toks := tk1 }) (k := fun i => PyData.int (key i)) ebs fun x i hR hx h2 tk2 kp => ?_) fun h2 tk2 out c kp hD ko => ⟨_, rfl, ?_⟩
  · obtain ⟨i, _, rfl⟩ := List.mem_map.mp hd
    show A.units + 1 + 1 + 0 < cLine
    omega
  · obtain ⟨t, rfl⟩ := hR
    exact turn i t (List.mem_range.mp hx) h2 tk2 fun b o e => up kp b o (k1 b o e)
  · refine wpAny_pure ⟨_, rfl, ?_⟩
    have e := PySem.W.keyedOut_each _ ko ebs
    rw [PySem.W.dataLe_int] at e
    exact h out c h1 h2 tk2 k1 (up kp) hD e
end

section
open LamX
variable {X : Cx}
theorem pe_range1 {p pos : Pos} {e : Expr} {te : TE} (hg : Gl X "range") (hm : X.mg "range" = none) (he : PE X e te) (hs : starEach [e] X.env = (false, eval e X.env) :: starEach [] X.env := by rfl) : PE X (.Call (.Name "range" p) [e] [] pos) (tCB (fun vs H Q => ∃ j : Int, vs = [V.int j] ∧ ∀ q, H q = none → Q (.ref q) (upd H q (.rng 0 j))) (tCons te tNil)) :=
  pe_callTy (T := "range") (fun pins s σ H vs us Q I r h => by
    obtain ⟨j, rfl, q⟩ := h
    obtain ⟨u1, rfl, rj⟩ := vals1 r
    obtain ⟨u, rfl⟩ := rj
    refine call_range_1 ⟨.ref s.heap.objs.size, upd H s.heap.objs.size (.rng 0 j), I.laid (t' := s.toks + 1 + 1) (fun b o e => Heap.get?_push_of_some _ e) (Nat.le_refl _) ?_, rfl, q _ (I.hok.fresh (Nat.le_refl _))⟩
    exact ⟨s.toks, u, s.toks + 1, Heap.get?_push_size _ rfl⟩) hg hm (by decide +kernel) (pa_cons he pa_nil (hs := hs)) (he := hs)

/-- sorted(range(..), key=lambda number: -len(rows[number][0])), the rows in slot i, a cell -/
def tSortLam (T : List (Addr × Str)) (K : PySem.W.Frag) (i : Nat) (ti : TE) : TE := fun σ H Q => ti σ H fun x H1 => ∃ (r : Addr) (n : Nat) (a : Addr) (ts : List Addr) (key : Nat → Int), x = .ref r ∧ H1 r = some (.rng 0 (n : Int)) ∧ n ≤ 100000 ∧ σ[i]? = some (some (.ref a)) ∧
  SqL K H1 a (ts.map V.ref) ∧ ts.length = n ∧ (∀ (j : Nat) (t : Addr), ts[j]? = some t → ∃ (wd : Addr) (more xs : List V), SqT K H1 t (.ref wd :: more) ∧ SqL K H1 wd xs ∧ key j = -(xs.length : Int)) ∧ Tabs T H1 ∧
  ∀ (p : Addr) (H2 : Hp), ExtN H1 H2 → Tabs T H2 → H2 p = none → Q (.ref p) (upd H2 p (.lst (((List.range n).mergeSort fun i j => decide (key i ≤ key j)).map fun (j : Nat) => V.int (j : Int))))
theorem sqL_ext {K : PySem.W.Frag} {H H' : Hp} {a : Addr} {xs : List V} (e : ExtN H H') (h : SqL K H a xs) : SqL K H' a xs := by
  rcases h with (h | ⟨o, h⟩) | h
  · exact .inl (.inl (e _ _ h fun ps z => nomatch z))
  · exact .inl (.inr ⟨o, e _ _ h fun ps z => nomatch z⟩)
  · exact .inr h
theorem sqT_ext {K : PySem.W.Frag} {H H' : Hp} {a : Addr} {xs : List V} (e : ExtN H H') (h : SqT K H a xs) : SqT K H' a xs := by
  rcases h with (h | ⟨o, h⟩) | h
  · exact .inl (.inl (e _ _ h fun ps z => nomatch z))
  · exact .inl (.inr ⟨o, e _ _ h fun ps z => nomatch z⟩)
  · exact .inr h
theorem vals_of_each : ∀ (l : List Value) (ns : List Nat), PySem.W.EachIs IsN l ns → Vals (ns.map fun (j : Nat) => V.int (j : Int)) l
  | _, _, .nil => .nil
  | _, _, .cons h t => .cons h (vals_of_each _ _ t)
theorem pe_sortLam {T : List (Addr × Str)} {i : Nat} {iter : Expr} {ti : TE} {c P : Addr} {k : Nat} {q1 kpos lpos pos p0 p1 p2 p3 p4 p5 p6 p7 p8 : Pos} (hg : Gl X "sorted") (hm : X.mg "sorted" = none) (hmL : X.mg "len" = none) (hi : PE X iter ti)
    (hN : X.N[i]? = some ("standings" : Str)) (hcl : X.env.scope.names.lookup ("standings" : Str) = some .cell) (TB : TabB X.base X.mg c P) (hcode : X.env.code = .ref c) (hmT : (P, X.env.qual ++ "<lambda>") ∈ T) (hu : ∀ p ∈ T, p.1 = P → p.2 = X.env.qual ++ "<lambda>") (hr : Room k X.A)
    (he : backTo pos (starEach [iter] X.env) = (false, eval iter X.env) :: backTo pos (starEach [] X.env) := by rfl) (hpl : (backTo pos (starEach [iter] X.env)).any (·.1) = false := by rfl) :
    PE X (.Call (.Name "sorted" q1) [iter] [⟨some "key", .Lambda (lamArgs ("number" : Str) p0) (lamBody ("number" : Str) ("standings" : Str) p1 p2 p3 p4 p5 p6 p7 p8) (lamScope ("number" : Str) ("standings" : Str)) lpos, kpos⟩] pos) (tSortLam T X.K i ti) := by
  refine ⟨fun pins s σ H Q I h => ?_⟩
  refine wpAny_Call_Name_kw (ld_blt I hg hm (u := .builtin "sorted") (by decide +kernel) ?_)
  refine PyProof.Rows.callWith_kw ?_ he hpl rfl rfl
  rw [he]
  refine Calls.spliced_cons (thn (hi.run pins s σ H _ I h) fun u s1 ⟨x, H1, I1, r1, q1⟩ => ?_)
  obtain ⟨r, n, a, ts, key, rfl, hrg, hn, hσ, hS, hlen, hrows, hT, q⟩ := q1
  obtain rfl : u = Value.ref r := r1
  refine Calls.spliced_nil ?_
  show wpAny _ _ (evalAll [do let v ← eval (.Lambda (lamArgs ("number" : Str) p0) (lamBody ("number" : Str) ("standings" : Str) p1 p2 p3 p4 p5 p6 p7 p8) (lamScope ("number" : Str) ("standings" : Str)) lpos) X.env; standAt pos; pure v]) _ _ s1
  have hfree : ∀ y ∈ (lamScope ("number" : Str) ("standings" : Str)).names, y.2 = NameKind.free → ∃ c, X.env.cells.lookup y.1 = some c := fun y hy e => by
    have hy1 : y = (("standings" : Str), NameKind.free) := by
      rcases List.mem_cons.mp hy with rfl | hy
      · cases e
      · rcases List.mem_cons.mp hy with rfl | hy
        · rfl
        · rw [List.mem_singleton.mp hy] at e
          cases e
    rw [hy1]
    exact I1.ok.has _ (.inl hcl)
  refine wpAny_evalAll_cons (wpAny_bind (lam_make2 I1 TB hcode hmT hu hT rfl hfree fun f c' pm ctv H2 s2 I2 e2 T2 hf hfn hfr hco => wpAny_bind (wpAny_standAt (wpAny_pure (wpAny_evalAll_nil ?_)))))
  -- the def's cell of rows
  have hcell : ∃ c2, X.env.cells.lookup ("standings" : Str) = some c2 ∧ s2.heap.IsCell c2 (some (.ref a)) := by
    obtain ⟨m, hn2, hl⟩ := I2.loc
    obtain ⟨w2, rv, l⟩ := hl i ("standings" : Str) _ hN hσ (.inr (.inl hcl))
    obtain rfl : w2 = Value.ref a := rv
    rcases l with ⟨hk, _⟩ | ⟨_, c2, h1, h2⟩
    · have hk : X.env.scope.names.lookup ("standings" : Str) = some .local := hk
      rw [hcl] at hk
      cases hk
    · exact ⟨c2, h1, h2⟩
  obtain ⟨c2, hc2, hcell⟩ := hcell
  have hcl2 : (cloFrom X.env.cells (lamScope ("number" : Str) ("standings" : Str)).names []).lookup ("standings" : Str) = some c2 := NdefX.clo_has hfree (by decide +kernel) hc2
  obtain ⟨mb, hb1, hb2⟩ := I2.mod.blt
  have rg2 : H2 r = some (.rng 0 (n : Int)) := e2 _ _ hrg fun ps z => nomatch z
  obtain ⟨t1, t2, t3, hrr⟩ := (show ObjOk X.prog X.w H2 s2.heap r (.rng 0 (n : Int)) from I2.hok r _ rg2)
  obtain ⟨its, rv, pl, hz⟩ := I2.list (sqL_ext e2 hS)
  have hun := hr.un
  have hdp := hr.dp
  refine sorted_range_key (f := f) key hr.hd hrr hn (by omega) (fun j tk hj h0 tk0 k0 => ?_) fun out cc h1 h' tk k1 k2 hD hE => ?_
  · have hjt : j < ts.length := by omega
    obtain ⟨wd, more, xs, ht, hw, hkey⟩ := hrows j ts[j] (by simp [hjt])
    obtain ⟨tits, rvt, plt, hzt⟩ := I2.tuple (sqT_ext e2 ht)
    obtain ⟨wits, rvw, plw, hzw⟩ := I2.list (sqL_ext e2 hw)
    have hlw := rvw.length
    have hlt := rvt.length
    have hli := rv.length
    obtain ⟨u1, hu1, ru1⟩ := rv.get (i := j) (x := .ref ts[j]) (by rw [List.getElem?_map]; simp [hjt])
    obtain rfl : u1 = Value.ref ts[j] := ru1
    obtain ⟨u2, hu2, ru2⟩ := rvt.get (i := 0) (x := .ref wd) rfl
    obtain rfl : u2 = Value.ref wd := ru2
    rw [hkey, hlw]
    refine lam_call (s := { s2 with heap := h0, toks := tk0 }) (k0 _ _ hf) ?_ (by show X.A.depth < recursionLimit; omega) (I2.nolimit.keeps k0) hcl2 ?_ ((I2.mod.glob.keeps I2.bk).keeps k0) hmL ((hb1.keeps I2.bk).keeps k0) ((hb2 _ (by decide)).trans (by decide +kernel))
      (isList_keeps pl.isList k0) hu1 (plt.keeps k0) hu2 (isList_keeps plw.isList k0) (by omega) (by omega) (by omega)
    · obtain ⟨c3, oc, vs, t, z1, z2, z3, z4⟩ := NdefX.codeO_at I2.hok hco
      exact ⟨c3, oc, vs, t, z1, k0 _ _ z2, z3, z4⟩
    · obtain ⟨o, ho, hd⟩ := hcell
      exact ⟨o, k0 _ _ ho, hd⟩
  · have I3 : Inv X pins σ H2 { s2 with heap := h1 } := I2.kept (t' := s2.toks) k1
    have hl2 : (((List.range n).mergeSort fun i j => decide (key i ≤ key j)).map fun (j : Nat) => V.int (j : Int)).length ≤ sizeLine := by
      rw [List.length_map, List.length_mergeSort, List.length_range, sizeLine_eq]
      omega
    have I4 := I3.laid (a := h1.objs.size) (t' := tk) (h' := h') (o := .lst (((List.range n).mergeSort fun i j => decide (key i ≤ key j)).map fun (j : Nat) => V.int (j : Int))) k2 (Nat.le_refl _) ⟨hl2, out, cc, vals_of_each _ _ hE, hD⟩
    exact ⟨.ref h1.objs.size, _, I4, rfl, q _ H2 e2 T2 (I3.hok.fresh (Nat.le_refl _))⟩
theorem pe_sortLamK (K : PySem.W.Frag) {T : List (Addr × Str)} {i : Nat} {iter : Expr} {ti : TE} {c P : Addr} {k : Nat} {q1 kpos lpos pos p0 p1 p2 p3 p4 p5 p6 p7 p8 : Pos} (hg : Gl X "sorted") (hm : X.mg "sorted" = none) (hmL : X.mg "len" = none) (hi : PE X iter ti)
    (hN : X.N[i]? = some ("standings" : Str)) (hcl : X.env.scope.names.lookup ("standings" : Str) = some .cell) (TB : TabB X.base X.mg c P) (hcode : X.env.code = .ref c) (hmT : (P, X.env.qual ++ "<lambda>") ∈ T) (hu : ∀ p ∈ T, p.1 = P → p.2 = X.env.qual ++ "<lambda>") (hr : Room k X.A) (hK : X.K = K := by rfl)
    (he : backTo pos (starEach [iter] X.env) = (false, eval iter X.env) :: backTo pos (starEach [] X.env) := by rfl) (hpl : (backTo pos (starEach [iter] X.env)).any (·.1) = false := by rfl) :
    PE X (.Call (.Name "sorted" q1) [iter] [⟨some "key", .Lambda (lamArgs ("number" : Str) p0) (lamBody ("number" : Str) ("standings" : Str) p1 p2 p3 p4 p5 p6 p7 p8) (lamScope ("number" : Str) ("standings" : Str)) lpos, kpos⟩] pos) (tSortLam T K i ti) :=
  hK ▸ pe_sortLam hg hm hmL hi hN hcl TB hcode hmT hu hr he hpl
end
end QL
end

section
set_option Elab.async false
set_option linter.all false
set_option maxRecDepth 100000
/-! words, ways, standings in the abstract heap; what is kept -/
namespace QB
open PySem PySem.Spec PyProof.Rows L2 LamX

/-! ### text facts as data -/
/-- a def of the text: where it stands, how it binds -/
structure DefAt (K : PySem.W.Frag) (x qual : Str) (st : Stmt) (ps : List Str) : Type where
  a : Addr
  fd : FuncData
  F : Fun K x qual st a fd
  b : Binds K fd ps []
/-- .. a def of the module, by its name -/
structure TopAt (K : PySem.W.Frag) (mg : Str → Option Value) (x : Str) (st : Stmt) (ps : List Str) : Type extends DefAt K x x st ps where
  mg : mg x = some (.ref a)

section
variable {X : Cx}
theorem pe_gc {x : Str} {v : V} {pos : Pos} (hg : Gl X x) (h : ∃ u, X.mg x = some u ∧ RelV v u) (hd : (x == ("__debug__" : Str)) = false := by decide) : PE X (.Name x pos) (tC v) := by
  obtain ⟨u, hm, r⟩ := h
  exact pe_glob hg hm r hd
end
theorem bo_isinstance : bootBuiltins "isinstance" = some (.builtin "isinstance") := by decide +kernel
theorem bo_abs : bootBuiltins "abs" = some (.builtin "abs") := by decide +kernel
theorem bo_max : bootBuiltins "max" = some (.builtin "max") := by decide +kernel
theorem bo_min : bootBuiltins "min" = some (.builtin "min") := by decide +kernel
theorem bo_sum : bootBuiltins "sum" = some (.builtin "sum") := by decide +kernel
theorem bo_all : bootBuiltins "all" = some (.builtin "all") := by decide +kernel
theorem bo_any : bootBuiltins "any" = some (.builtin "any") := by decide +kernel
theorem bo_len : bootBuiltins "len" = some (.builtin "len") := by decide +kernel
theorem bo_sorted : bootBuiltins "sorted" = some (.builtin "sorted") := by decide +kernel
theorem bo_list : bootBuiltins "list" = some (.type "list") := by decide +kernel
theorem bo_tuple : bootBuiltins "tuple" = some (.type "tuple") := by decide +kernel
theorem bo_int : bootBuiltins "int" = some (.type "int") := by decide +kernel
theorem bo_str : bootBuiltins "str" = some (.type "str") := by decide +kernel
theorem bo_bool : bootBuiltins "bool" = some (.type "bool") := by decide +kernel
theorem bo_range : bootBuiltins "range" = some (.type "range") := by decide +kernel
theorem bo_enumerate : bootBuiltins "enumerate" = some (.type "enumerate") := by decide +kernel
theorem bo_zip : bootBuiltins "zip" = some (.type "zip") := by decide +kernel
theorem bo_dict : bootBuiltins "dict" = some (.type "dict") := by decide +kernel
theorem bo_set : bootBuiltins "set" = some (.type "set") := by decide +kernel
theorem hu64 {A : Around} {k : Nat} (hr : Room k A) : A.units + 64 < cLine := hr.units

/-! ### rules with the written part named -/
section
variable {X : Cx} (K : PySem.W.Frag)
theorem ix_listK (h : X.K = K := by rfl) : IxR X (rIxL K) := h ▸ ix_list
theorem ix_tupK (h : X.K = K := by rfl) : IxR X (rIxT K) := h ▸ ix_tup
def rLen (K : PySem.W.Frag) : List V → Hp → VK → Prop := fun xs H Q => ∃ p ys, xs = [.ref p] ∧ (SqL K H p ys ∨ SqT K H p ys) ∧ Q (.int ys.length) H
theorem call_lenK (h : X.K = K := by rfl) : CallR X (.builtin "len") (rLen K) := h ▸ call_len_seq
def rListOf (K : PySem.W.Frag) : List V → Hp → VK → Prop := fun xs H Q => ∃ p ys, xs = [.ref p] ∧ (SqL K H p ys ∨ SqT K H p ys) ∧ ∀ l, H l = none → Q (.ref l) (upd H l (.lst ys))
theorem call_listK (h : X.K = K := by rfl) : CallR X (.type "list") (rListOf K) := h ▸ call_list_of
def rTupOf (K : PySem.W.Frag) : List V → Hp → VK → Prop := fun xs H Q => ∃ p ys, xs = [.ref p] ∧ ((SqL K H p ys ∧ ∀ l, H l = none → Q (.ref l) (upd H l (.tup ys))) ∨ (SqT K H p ys ∧ Q (.ref p) H))
theorem call_tupleK (h : X.K = K := by rfl) : CallR X (.type "tuple") (rTupOf K) := h ▸ call_tuple_of
theorem call_isiK (h : X.K = K := by rfl) : CallR X (.builtin "isinstance") (rIsi K) := h ▸ call_isi
theorem cr_allK (hc : X.calm = true) (h : X.K = K := by rfl) : CallR X (.builtin "all") (rAll K) := h ▸ cr_all hc
theorem cr_anyK (hc : X.calm = true) (h : X.K = K := by rfl) : CallR X (.builtin "any") (rAny K) := h ▸ cr_any hc
theorem cr_maxK (hc : X.calm = true) (h : X.K = K := by rfl) : CallR X (.builtin "max") (rMax K) := h ▸ cr_max hc
theorem mt_indexK (h : X.K = K := by rfl) : MtR X "list.index" (rIndex K) := h ▸ mt_index
theorem op_inK (h : X.K = K := by rfl) : OpR X (compareOp .In) (rIn K false) := h ▸ op_in_seq
theorem op_notInK (h : X.K = K := by rfl) : OpR X (compareOp .NotIn) (rIn K true) := h ▸ op_notIn_seq
theorem op_eqDK (hu : X.A.units + 64 < cLine) (h : X.K = K := by rfl) : OpR X (compareOp .Eq) (rEqD K) := h ▸ op_eqD hu
theorem op_neDK (hu : X.A.units + 64 < cLine) (h : X.K = K := by rfl) : OpR X (compareOp .NotEq) (rNeD K) := h ▸ op_neD hu
theorem sl_listK (h : X.K = K := by rfl) : SlR X (rSlL K) := h ▸ sl_list
theorem pi_listK {tg l : Expr} {tl : TE} (he : PE X l tl) (h : X.K = K := by rfl) : PI X tg l (iList K tl) := h ▸ pi_list he
theorem pe_fldK {e : Expr} {ta : TE} {f : Str} {pos : Pos} (he : PE X e ta) (hb : attributeBase e f X.env (eval e X.env) = eval e X.env) (h : X.K = K := by rfl) : PE X (.Attribute e f pos) (tFld K ta f) := h ▸ pe_fld he hb
theorem pe_bmK {o e : Expr} {es : List Expr} {to : TE} {t : TA} {name : Str} {apos cpos : Pos} {T id : String} {r : V → List V → Hp → VK → Prop} (pa : PlainAttrs T) (slot : Slot T name id)
    (hty : typeOf (.builtin id) = pure (.type "method_descriptor")) (hm : MtR X id r) (ho : PE X o to) (ha : PA X (e :: es) t) (h : X.K = K := by rfl) (hbase : attributeBase o name X.env (eval o X.env) = eval o X.env := by rfl)
    (hfew : ((backTo cpos (starEach (e :: es) X.env)).all (fun x => !x.1) && (backToKw cpos (keywordEach [] X.env)).all (fun x => x.1.isSome) && decide ((e :: es).length + ([] : List Keyword).length + (if ([] : List Keyword).isEmpty then 0 else 1) < 30)) = true := by rfl)
    (hline : (apos.endLine == cpos.line) = true := by rfl) (hs : starEach (e :: es) X.env = (false, eval e X.env) :: starEach es X.env := by rfl) (hp : (backTo cpos (starEach es X.env)).any (·.1) = false := by rfl) :
    PE X (.Call (.Attribute o name apos) (e :: es) [] cpos) (tBM K T r to t) := h ▸ pe_bm pa slot hty hm ho ha hbase hfew hline hs hp
theorem pe_bm0K {o : Expr} {to : TE} {name : Str} {apos cpos : Pos} {T id : String} {r : V → List V → Hp → VK → Prop} (pa : PlainAttrs T) (slot : Slot T name id)
    (hty : typeOf (.builtin id) = pure (.type "method_descriptor")) (hm : MtR X id r) (ho : PE X o to) (h : X.K = K := by rfl) (hbase : attributeBase o name X.env (eval o X.env) = eval o X.env := by rfl)
    (hline : (apos.endLine == cpos.line) = true := by rfl) : PE X (.Call (.Attribute o name apos) [] [] cpos) (tBM0 K T r to) := h ▸ pe_bm0 pa slot hty hm ho hbase hline
theorem pi_enumK {e : Expr} {ta : TA} {p pos tpos : Pos} {elts : List Expr} {kk : Nat} (hg : Gl X "enumerate") (hm : X.mg "enumerate" = none) (ha : PA X [e] ta) (h : X.K = K := by rfl) (hs : starEach [e] X.env = [(false, eval e X.env)] := by rfl) :
    PI X (.Tuple elts kk tpos) (.Call (.Name "enumerate" p) [e] [] pos) (iEnum K ta) := h ▸ pi_enum hg hm ha hs
theorem pi_zipK {e e2 : Expr} {ta : TA} {p pos tpos : Pos} {elts : List Expr} {kk : Nat} (hg : Gl X "zip") (hm : X.mg "zip" = none) (ha : PA X [e, e2] ta) (h : X.K = K := by rfl)
    (hs : starEach [e, e2] X.env = (false, eval e X.env) :: starEach [e2] X.env := by rfl) (hpl : (backTo pos (starEach [e2] X.env)).any (·.1) = false := by rfl) :
    PI X (.Tuple elts kk tpos) (.Call (.Name "zip" p) [e, e2] [] pos) (iZip K ta) := h ▸ pi_zip hg hm ha hs hpl
end

/-! ### what stays: all but the tables of code objects, which grow -/
def Ext (T : List (Addr × Str)) (H H' : Hp) : Prop := ExtN H H' ∧ (Tabs T H → Tabs T H')
section
variable {T : List (Addr × Str)} {H H' H'' : Hp} {p : Addr} {o : HO} {K : PySem.W.Frag}
theorem Ext.refl : Ext T H H := ⟨ExtN.refl H, fun t => t⟩
theorem Ext.trans (a : Ext T H H') (b : Ext T H' H'') : Ext T H H'' := ⟨a.1.trans b.1, fun t => b.2 (a.2 t)⟩
theorem Ext.of (a : Same H H') : Ext T H H' := ⟨ExtN.of a, fun t => t.ext a⟩
theorem same_new (h : H p = none) : Same H (upd H p o) := fun b u e => by
  rw [upd_ne (ne_of_none e h)]
  exact e
theorem Same.new (a : Same H H') (h : H' p = none) : Same H (upd H' p o) := fun b u e => by
  have e' := a b u e
  rw [upd_ne (ne_of_none e' h)]
  exact e'
/-- an object that was not there at H may change -/
theorem Same.mut (a : Same H H') (h : H p = none) : Same H (upd H' p o) := fun b u e => by
  rw [upd_ne (ne_of_none e h)]
  exact a b u e
theorem Ext.new (h : H p = none) : Ext T H (upd H p o) := .of (same_new h)
theorem Ext.get {u : HO} (a : Ext T H H') (h : H p = some u) (n : ∀ ps, u ≠ .tbl ps := by intro _ z; cases z) : H' p = some u := a.1 _ _ h n
theorem Ext.lst {xs : List V} (a : Ext T H H') (h : H p = some (.lst xs)) : H' p = some (.lst xs) := a.1 _ _ h fun _ z => nomatch z
theorem Ext.tup {xs : List V} (a : Ext T H H') (h : H p = some (.tup xs)) : H' p = some (.tup xs) := a.1 _ _ h fun _ z => nomatch z
/-- not there, but for a table -/
def Fresh (H : Hp) (p : Addr) : Prop := ∀ o, H p = some o → ∃ ps, o = .tbl ps
theorem Fresh.of (h : H p = none) : Fresh H p := fun o e => by
  rw [h] at e
  cases e
theorem Ext.fresh (a : Ext T H H') (h : Fresh H' p) : Fresh H p := fun o e => by
  by_cases hu : ∃ ps, o = .tbl ps
  · exact hu
  · exact h o (a.1 _ _ e fun ps z => hu ⟨ps, z⟩)
theorem Ext.free (a : Ext T H H') (h : H' p = none) : Fresh H p := a.fresh (.of h)
theorem Fresh.ne {q : Addr} {u : HO} (f : Fresh H p) (h : H q = some u) (n : ∀ ps, u ≠ .tbl ps := by intro _ z; cases z) : q ≠ p := fun e => by
  rw [e] at h
  obtain ⟨ps, z⟩ := f _ h
  exact n ps z
/-- what may be written without harm to the tables -/
def Plain : HO → Prop
  | .lst _ => True
  | .ins _ _ _ => True
  | .dK _ => True
  | _ => False
theorem Plain.tbl {o : HO} (h : Plain o) : ∀ ps, o ≠ .tbl ps := fun ps z => by
  rw [z] at h
  exact h
theorem Plain.code {o : HO} (h : Plain o) (c : Addr) (q : Str) : o ≠ CodeO c q := fun z => by
  rw [z] at h
  exact h
theorem tabs_mut {u : HO} (t : Tabs T H) (h : H p = some u) (hu : Plain u) : Tabs T (upd H p o) := fun q hq => by
  obtain ⟨ps, h1, h2, h3⟩ := t q hq
  refine ⟨ps, by rw [upd_ne (ne_of h1 h (hu.tbl ps).symm)]; exact h1, h2, fun pos cv hc => ?_⟩
  obtain ⟨c, e1, e2⟩ := h3 pos cv hc
  exact ⟨c, e1, by rw [upd_ne (ne_of e2 h (hu.code c _).symm)]; exact e2⟩
theorem Ext.mut {u : HO} (a : Ext T H H') (f : Fresh H p) (h : H' p = some u) (hu : Plain u := by trivial) : Ext T H (upd H' p o) :=
  ⟨fun b x e n => by
    rw [upd_ne (f.ne e n)]
    exact a.1 _ _ e n, fun t => tabs_mut (a.2 t) h hu⟩
theorem Ext.new' (a : Ext T H H') (h : H' p = none) : Ext T H (upd H' p o) := a.trans (.new h)
theorem Ext.sqL {a : Addr} {xs : List V} (e : Ext T H H') (h : SqL K H a xs) : SqL K H' a xs := QL.sqL_ext e.1 h
theorem Ext.sqT {a : Addr} {xs : List V} (e : Ext T H H') (h : SqT K H a xs) : SqT K H' a xs := QL.sqT_ext e.1 h
end

/-! ### words, ways, standings -/
abbrev Word := List Str
abbrev Ways := List (Option Nat)
abbrev Std := Word × Ways
abbrev Form := List Std
def vS (w : Word) : List V := w.map V.str
def vW : Option Nat → V
  | none => .non
  | some n => .int (n : Int)
def vWs (ws : Ways) : List V := ws.map vW
section
variable (H : Hp)
def WordAt (a : Addr) (w : Word) : Prop := H a = some (.lst (vS w))
def WaysAt (a : Addr) (w : Ways) : Prop := H a = some (.lst (vWs w))
def StdAt (t : Addr) (s : Std) : Prop := ∃ a b, H t = some (.tup [.ref a, .ref b]) ∧ WordAt H a s.1 ∧ WaysAt H b s.2
def FormAt (p : Addr) (F : Form) : Prop := ∃ ts : List Addr, H p = some (.lst (ts.map V.ref)) ∧ Paired (StdAt H) ts F
end
section
variable {T : List (Addr × Str)} {K : PySem.W.Frag} {H H' : Hp} {a p : Addr} {w : Word} {ws : Ways} {F : Form} {s : Std}
theorem Ext.word (e : Ext T H H') (h : WordAt H a w) : WordAt H' a w := e.lst h
theorem Ext.ways (e : Ext T H H') (h : WaysAt H a ws) : WaysAt H' a ws := e.lst h
theorem Ext.std (e : Ext T H H') (h : StdAt H a s) : StdAt H' a s := by
  obtain ⟨x, y, h1, h2, h3⟩ := h
  exact ⟨x, y, e.tup h1, e.word h2, e.ways h3⟩
theorem Ext.form (e : Ext T H H') (h : FormAt H p F) : FormAt H' p F := by
  obtain ⟨ts, h1, h2⟩ := h
  exact ⟨ts, e.lst h1, L2.Paired.mapP h2 fun t s h => e.std h⟩
theorem Same.word (e : Same H H') (h : WordAt H a w) : WordAt H' a w := e _ _ h
theorem Same.ways (e : Same H H') (h : WaysAt H a ws) : WaysAt H' a ws := e _ _ h
theorem Same.std (e : Same H H') (h : StdAt H a s) : StdAt H' a s := (Ext.of (T := []) e).std h
theorem Same.form (e : Same H H') (h : FormAt H p F) : FormAt H' p F := (Ext.of (T := []) e).form h
theorem paired_get {α β : Type} {R : α → β → Prop} : ∀ {l : List α} {m : List β} {i : Nat} {b : β}, Paired R l m → m[i]? = some b → ∃ a, l[i]? = some a ∧ R a b
  | _, _, _, _, .nil, e => by simp at e
  | _, _, 0, _, .cons h t, e => by
    simp at e
    subst e
    exact ⟨_, rfl, h⟩
  | _, _, i + 1, _, .cons h t, e => by
    obtain ⟨a, h1, h2⟩ := paired_get (i := i) t (by simpa using e)
    exact ⟨a, by simpa using h1, h2⟩
theorem paired_get' {α β : Type} {R : α → β → Prop} : ∀ {l : List α} {m : List β} {i : Nat} {a : α}, Paired R l m → l[i]? = some a → ∃ b, m[i]? = some b ∧ R a b
  | _, _, _, _, .nil, e => by simp at e
  | _, _, 0, _, .cons h t, e => by
    simp at e
    subst e
    exact ⟨_, rfl, h⟩
  | _, _, i + 1, _, .cons h t, e => by
    obtain ⟨a, h1, h2⟩ := paired_get' (i := i) t (by simpa using e)
    exact ⟨a, by simpa using h1, h2⟩
/-- the k-th standing: its tuple, its lists -/
theorem FormAt.at {k : Nat} (h : FormAt H p F) (e : F[k]? = some s) : ∃ (vs : List V) (t a b : Addr), H p = some (.lst vs) ∧ vs.length = F.length ∧ vs[k]? = some (.ref t) ∧ H t = some (.tup [.ref a, .ref b]) ∧ WordAt H a s.1 ∧ WaysAt H b s.2 := by
  obtain ⟨ts, h1, h2⟩ := h
  obtain ⟨t, ht, x, y, h3, h4, h5⟩ := paired_get h2 e
  exact ⟨_, t, x, y, h1, by rw [List.length_map, Paired.length h2], by rw [List.getElem?_map, ht]; rfl, h3, h4, h5⟩
theorem FormAt.lst (h : FormAt H p F) : ∃ vs : List V, H p = some (.lst vs) ∧ vs.length = F.length := by
  obtain ⟨ts, h1, h2⟩ := h
  exact ⟨_, h1, by rw [List.length_map, Paired.length h2]⟩
theorem vS_get {k : Nat} {x : Str} (h : w[k]? = some x) : (vS w)[k]? = some (.str x) := by
  unfold vS
  rw [List.getElem?_map, h]
  rfl
theorem vWs_get {k : Nat} {x : Option Nat} (h : ws[k]? = some x) : (vWs ws)[k]? = some (vW x) := by
  unfold vWs
  rw [List.getElem?_map, h]
  rfl
theorem vS_len : (vS w).length = w.length := List.length_map _
theorem vWs_len : (vWs ws).length = ws.length := List.length_map _
theorem vS_flat : (vS w).all flatV = true := by
  rw [List.all_eq_true]
  intro x hx
  obtain ⟨s, _, rfl⟩ := List.mem_map.mp hx
  rfl
theorem eqV_str (x y : Str) : eqV (.str x) (.str y) = decide (x = y) := by
  by_cases h : x = y
  · subst h
    simp [eqV]
  · simp [eqV, h]
theorem inV_word (x : Str) : inV (.str x) (vS w) = decide (x ∈ w) := by
  unfold inV vS
  induction w with
  | nil => rfl
  | cons y w ih =>
    rw [List.map_cons, List.any_cons, ih, eqV_str]
    by_cases h : y = x
    · subst h
      simp
    · simp [h, Ne.symm h]
theorem vW_is (x : Option Nat) : decide (vW x = .non) = x.isNone := by
  cases x <;> rfl
theorem vS_append (v w : Word) : vS v ++ vS w = vS (v ++ w) := (List.map_append ..).symm
theorem cut_drop (xs : List V) (k : Nat) : cutV xs (some (k : Int)) none = xs.drop k := by
  unfold cutV
  rw [HT.sIx_nat, HT.sIx_none]
  by_cases h : k ≤ xs.length
  · rw [Nat.min_eq_left h, List.take_of_length_le (by rw [List.length_drop]; exact Nat.le_refl _)]
  · rw [Nat.min_eq_right (by omega), List.drop_eq_nil_of_le (Nat.le_refl _), List.drop_eq_nil_of_le (by omega), List.take_nil]
theorem cut_take (xs : List V) (k : Nat) : cutV xs none (some (k : Int)) = xs.take k := by
  unfold cutV
  rw [HT.sIx_nat, HT.sIx_none, List.drop_zero, Nat.sub_zero]
  by_cases h : k ≤ xs.length
  · rw [Nat.min_eq_left h]
  · rw [Nat.min_eq_right (by omega), List.take_of_length_le (Nat.le_refl _), List.take_of_length_le (by omega)]
theorem vS_drop (w : Word) (k : Nat) : (vS w).drop k = vS (w.drop k) := List.map_drop.symm
theorem vS_take (w : Word) (k : Nat) : (vS w).take k = vS (w.take k) := List.map_take.symm
theorem idxOf_min {tags : Word} {t : Str} : ∀ {m : Nat}, m < tags.idxOf t → ∀ {x}, tags[m]? = some x → x ≠ t := by
  induction tags with
  | nil => intro m h x e; simp at e
  | cons y tags ih =>
    intro m h x e z
    subst z
    rw [List.idxOf_cons] at h
    by_cases hy : y == x
    · rw [hy] at h
      simp at h
    · rw [Bool.not_eq_true] at hy
      rw [hy] at h
      simp at h
      cases m with
      | zero =>
        simp at e
        subst e
        simp at hy
      | succ m => exact ih (m := m) (by omega) (by simpa using e) rfl
/-- tags.index(tag), there -/
theorem index_word {tags : Word} {t : Str} {Q : VK} (h : WordAt H a tags) (ht : t ∈ tags) (q : Q (.int (tags.idxOf t : Nat)) H) : rIndex K (.ref a) [.str t] H Q := by
  have hlt : tags.idxOf t < tags.length := List.idxOf_lt_length_of_mem ht
  refine ⟨a, vS tags, .str t, tags.idxOf t, .str t, rfl, rfl, SqL.of h, rfl, vS_flat, vS_get ?_, by rw [eqV_str]; simp, fun m z hm hz => ?_, q⟩
  · rw [List.getElem?_eq_getElem hlt, List.getElem_idxOf]
  · have hm' : m < tags.length := Nat.lt_trans hm hlt
    have e : tags[m]? = some tags[m] := by simp [hm']
    rw [vS_get e] at hz
    cases hz
    rw [eqV_str]
    exact decide_eq_false (idxOf_min hm e)

/-! ### comprehensions whose elements leave all as it was -/
theorem sz_le {n : Nat} (h : n ≤ 100000) : n ≤ sizeLine := Nat.le_trans h (by decide)
theorem sz_lt {n : Nat} (h : n < 100000) : n < sizeLine := Nat.lt_of_lt_of_le h (by decide)
theorem lc_filter {J : It} {n : Nat} {G : Hp → Prop} {Y : Nat → Hp → V → Hp → Prop} (w : Walk J n G Y) {g : TG} {tt : TT} {te : TE} {vs : List Nat} {σ : L2.St} {H1 : Hp} {D : Addr} {Qd : Hp → Prop} (hD : H1 D = none) (hn : n ≤ 100000)
    (hG : ∀ H, Same H1 H → G H) (f : Nat → V) (p : Nat → Bool)
    (hs : ∀ (i : Nat) (x : V) (H H' : Hp) (k : VK) (N : Hp → Prop), i < n → Same H1 H → Y i H x H' → (p i = true → ∀ H4, Same H H4 → k (f i) H4) → (p i = false → ∀ H4, Same H H4 → N H4) →
      g x (wipe σ vs) H' fun σ2 H2 => wipe σ2 vs = wipe σ vs ∧ tt σ2 H2 fun b H3 => if b = true then te σ2 H3 k else N H3)
    (hd : ∀ H, Same H1 H → H D = some (.lst (((List.range n).filter p).map f)) → Qd H) :
    ∃ W : Nat → Nat → Hp → Prop, (∃ m, W 0 m (upd H1 D (.lst []))) ∧ ∀ i m H, W i m H →
      (J.stop i H ∧ Qd H) ∨ (J.go i H ∧ ∃ Nx : Hp → Prop, (∀ H', Nx H' → ∃ m', m' < m ∧ W (i + 1) m' H') ∧ ∀ x H', J.yld i H x H' → g x (wipe σ vs) H' fun σ2 H2 => wipe σ2 vs = wipe σ vs ∧ tt σ2 H2 fun b H3 =>
        if b = true then te σ2 H3 fun y H4 => ∃ acc, H4 D = some (.lst acc) ∧ acc.length < sizeLine ∧ Nx (upd H4 D (.lst (acc ++ [y]))) else Nx H3) := by
  refine lc_it w (fun i H => Same H1 H ∧ H D = some (.lst (((List.range i).filter p).map f))) ⟨Same.mut (Same.refl H1) hD, upd_same⟩ (fun i H _ h => hG H h.1) (fun i x H H' hi h y => ?_) fun H h => hd H h.1 h.2
  obtain ⟨s1, e⟩ := h
  refine hs i x H H' _ _ hi s1 y (fun hp H4 s4 => ⟨_, s4 _ _ e, ?_, Same.mut (s1.trans s4) hD, ?_⟩) (fun hp H4 s4 => ⟨s1.trans s4, ?_⟩)
  · have h1 := List.length_filter_le p (List.range i)
    rw [List.length_range] at h1
    rw [List.length_map]
    exact sz_lt (by omega)
  · rw [upd_same, List.range_succ, List.filter_append, List.map_append, List.filter_cons, if_pos hp]
    rfl
  · rw [s4 _ _ e, List.range_succ, List.filter_append, List.map_append, List.filter_cons, if_neg (by rw [hp]; decide)]
    simp
theorem lc_map {J : It} {n : Nat} {G : Hp → Prop} {Y : Nat → Hp → V → Hp → Prop} (w : Walk J n G Y) {g : TG} {te : TE} {vs : List Nat} {σ : L2.St} {H1 : Hp} {D : Addr} {Qd : Hp → Prop} (hD : H1 D = none) (hn : n ≤ 100000)
    (hG : ∀ H, Same H1 H → G H) (f : Nat → V)
    (hs : ∀ (i : Nat) (x : V) (H H' : Hp) (k : VK), i < n → Same H1 H → Y i H x H' → (∀ H4, Same H H4 → k (f i) H4) →
      g x (wipe σ vs) H' fun σ2 H2 => wipe σ2 vs = wipe σ vs ∧ te σ2 H2 k)
    (hd : ∀ H, Same H1 H → H D = some (.lst ((List.range n).map f)) → Qd H) :
    ∃ W : Nat → Nat → Hp → Prop, (∃ m, W 0 m (upd H1 D (.lst []))) ∧ ∀ i m H, W i m H →
      (J.stop i H ∧ Qd H) ∨ (J.go i H ∧ ∃ Nx : Hp → Prop, (∀ H', Nx H' → ∃ m', m' < m ∧ W (i + 1) m' H') ∧ ∀ x H', J.yld i H x H' → g x (wipe σ vs) H' fun σ2 H2 => wipe σ2 vs = wipe σ vs ∧ tYes σ2 H2 fun b H3 =>
        if b = true then te σ2 H3 fun y H4 => ∃ acc, H4 D = some (.lst acc) ∧ acc.length < sizeLine ∧ Nx (upd H4 D (.lst (acc ++ [y]))) else Nx H3) := by
  refine lc_it w (fun i H => Same H1 H ∧ H D = some (.lst ((List.range i).map f))) ⟨Same.mut (Same.refl H1) hD, upd_same⟩ (fun i H _ h => hG H h.1) (fun i x H H' hi h y => ?_) fun H h => hd H h.1 h.2
  obtain ⟨s1, e⟩ := h
  have q := hs i x H H' (fun y H4 => ∃ acc, H4 D = some (.lst acc) ∧ acc.length < sizeLine ∧ (Same H1 (upd H4 D (.lst (acc ++ [y]))) ∧ (upd H4 D (.lst (acc ++ [y]))) D = some (.lst ((List.range (i + 1)).map f)))) hi s1 y
    fun H4 s4 => ⟨_, s4 _ _ e, by rw [List.length_map, List.length_range]; exact sz_lt (by omega), Same.mut (s1.trans s4) hD, by rw [upd_same, List.range_succ, List.map_append]; rfl⟩
  exact q
/-- a list by its places -/
theorem range_map_get {α : Type} (f : Nat → V) (l : List α) (h : α → V) (e : ∀ (i : Nat) (x : α), l[i]? = some x → f i = h x) : (List.range l.length).map f = l.map h := by
  refine List.ext_getElem? fun i => ?_
  rw [List.getElem?_map, List.getElem?_map]
  by_cases hi : i < l.length
  · rw [List.getElem?_range hi, List.getElem?_eq_getElem hi]
    exact congrArg some (e i _ (List.getElem?_eq_getElem hi))
  · rw [List.getElem?_eq_none (by rw [List.length_range]; omega), List.getElem?_eq_none (by omega)]
    rfl
theorem filter_range {α : Type} (q : α → Bool) (h : α → V) (p : Nat → Bool) (f : Nat → V) (l : List α) (e : ∀ (i : Nat) (x : α), l[i]? = some x → p i = q x ∧ f i = h x) : ((List.range l.length).filter p).map f = (l.filter q).map h := by
  have all : ∀ n, n ≤ l.length → ((List.range n).filter p).map f = ((l.take n).filter q).map h := by
    intro n
    induction n with
    | zero => intro _; rfl
    | succ n ih =>
      intro hn
      have ha : l[n]? = some (l[n]'(by omega)) := List.getElem?_eq_getElem (by omega)
      obtain ⟨e1, e2⟩ := e n _ ha
      rw [List.range_succ, List.filter_append, List.map_append, List.take_succ, ha, List.filter_append, List.map_append, ih (by omega), List.filter_cons, e1]
      by_cases hq : q (l[n]'(by omega)) = true
      · rw [if_pos hq]
        simp [hq, e2]
      · rw [if_neg hq]
        simp [hq]
  have := all l.length (Nat.le_refl _)
  rwa [List.take_length] at this

/-! ### what loops give -/
theorem walk_enumW : Walk (Ite K a) w.length (fun H => WordAt H a w) (fun i H v H' => ∃ (t : Addr) (x : Str), w[i]? = some x ∧ H t = none ∧ v = .ref t ∧ H' = upd H t (.tup [.int (i : Nat), .str x])) := by
  have e := walk_enum (K := K) (a := a) (xs := vS w)
  rw [vS_len] at e
  refine e.mono (fun H h => SqL.of h) fun i H v H' hi _ y => ?_
  obtain ⟨t, x, z, h1, h2, h3, h4, h5⟩ := y
  cases h4
  have h5 : (vS w)[i]? = some z := h5
  have hw : w[i]? = some w[i] := by simp [hi]
  rw [vS_get hw] at h5
  cases h5
  exact ⟨t, _, hw, h2, h1, h3⟩
theorem walk_listW : Walk (Itl K a) w.length (fun H => WordAt H a w) (fun i H v H' => ∃ x : Str, w[i]? = some x ∧ v = .str x ∧ H' = H) := by
  have e := walk_list (K := K) (a := a) (xs := vS w)
  rw [vS_len] at e
  refine e.mono (fun H h => SqL.of h) fun i H v H' hi _ y => ?_
  obtain ⟨h1, h2⟩ := y
  have hw : w[i]? = some w[i] := by simp [hi]
  rw [vS_get hw] at h2
  cases h2
  exact ⟨_, hw, rfl, h1⟩
theorem walk_listWs : Walk (Itl K a) ws.length (fun H => WaysAt H a ws) (fun i H v H' => ∃ x : Option Nat, ws[i]? = some x ∧ v = vW x ∧ H' = H) := by
  have e := walk_list (K := K) (a := a) (xs := vWs ws)
  rw [vWs_len] at e
  refine e.mono (fun H h => SqL.of h) fun i H v H' hi _ y => ?_
  obtain ⟨h1, h2⟩ := y
  have hw : ws[i]? = some ws[i] := by simp [hi]
  rw [vWs_get hw] at h2
  cases h2
  exact ⟨_, hw, rfl, h1⟩
/-- a form's standings, the heap as it was -/
theorem walk_listF : Walk (Itl K p) F.length (fun H => FormAt H p F) (fun i H v H' => ∃ (s : Std) (t a b : Addr), F[i]? = some s ∧ v = .ref t ∧ H' = H ∧ H t = some (.tup [.ref a, .ref b]) ∧ WordAt H a s.1 ∧ WaysAt H b s.2) := by
  refine ⟨fun i H hi h => ?_, fun H h => ?_, fun i H v H' hi h y => ?_⟩
  · obtain ⟨vs, t, a, b, h1, h2, h3, _⟩ := FormAt.at h (show F[i]? = some F[i] by simp [hi])
    exact ⟨vs, _, SqL.of h1, h3⟩
  · obtain ⟨vs, h1, h2⟩ := FormAt.lst h
    exact ⟨_, SqL.of h1, by rw [h2]; exact Nat.le_refl _⟩
  · have e : F[i]? = some F[i] := by simp [hi]
    obtain ⟨vs, t, a, b, h1, h2, h3, h4, h5, h6⟩ := FormAt.at h e
    obtain ⟨y1, y2⟩ := y
    have := y2 vs (SqL.of h1)
    rw [h3] at this
    cases this
    exact ⟨_, t, a, b, e, rfl, y1, h4, h5, h6⟩
end

/-! ### a form of one's own: new lists throughout, no list twice -/
abbrev Tri := Addr × Addr × Addr
def inner (L : List Tri) : List Addr := L.flatMap fun x => [x.2.1, x.2.2]
structure NewL (H0 H : Hp) (L : List Tri) (F : Form) : Prop where
  at_ : Paired (fun (x : Tri) (s : Std) => H x.1 = some (.tup [.ref x.2.1, .ref x.2.2]) ∧ WordAt H x.2.1 s.1 ∧ WaysAt H x.2.2 s.2) L F
  new : ∀ x ∈ L, Fresh H0 x.1 ∧ Fresh H0 x.2.1 ∧ Fresh H0 x.2.2
  nd : (inner L).Nodup
structure NewF (H0 H : Hp) (p : Addr) (L : List Tri) (F : Form) : Prop where
  lst : H p = some (.lst (L.map fun x => V.ref x.1))
  all : NewL H0 H L F
  new : Fresh H0 p
  out : p ∉ inner L
section
variable {T : List (Addr × Str)} {H0 H H' : Hp} {L : List Tri} {F : Form} {p t a b : Addr} {s : Std}
theorem NewL.nil : NewL H0 H [] [] := ⟨.nil, (fun _ h => nomatch h), List.nodup_nil⟩
theorem NewL.ext (n : NewL H0 H L F) (e : Ext T H H') : NewL H0 H' L F :=
  ⟨L2.Paired.mapP n.at_ fun _ _ h => ⟨e.tup h.1, e.word h.2.1, e.ways h.2.2⟩, n.new, n.nd⟩
theorem NewL.same (n : NewL H0 H L F) (e : Same H H') : NewL H0 H' L F := n.ext (Ext.of (T := []) e)
theorem NewF.ext (n : NewF H0 H p L F) (e : Ext T H H') : NewF H0 H' p L F := ⟨e.lst n.lst, n.all.ext e, n.new, n.out⟩
theorem NewF.same (n : NewF H0 H p L F) (e : Same H H') : NewF H0 H' p L F := n.ext (Ext.of (T := []) e)
theorem NewL.old {H1 : Hp} (n : NewL H H' L F) (e : Ext T H1 H) : NewL H1 H' L F := ⟨n.at_, fun x hx => ⟨e.fresh (n.new x hx).1, e.fresh (n.new x hx).2.1, e.fresh (n.new x hx).2.2⟩, n.nd⟩
theorem NewF.old {H1 : Hp} (n : NewF H H' p L F) (e : Ext T H1 H) : NewF H1 H' p L F := ⟨n.lst, n.all.old e, e.fresh n.new, n.out⟩
theorem mem_inner {q : Addr} (h : q ∈ inner L) : ∃ x ∈ L, q = x.2.1 ∨ q = x.2.2 := by
  obtain ⟨x, hx, hq⟩ := List.mem_flatMap.mp h
  refine ⟨x, hx, ?_⟩
  simpa using hq
theorem NewL.there (n : NewL H0 H L F) {q : Addr} (h : q ∈ inner L) : ∃ xs, H q = some (.lst xs) := by
  obtain ⟨x, hx, hq⟩ := mem_inner h
  obtain ⟨i, hi, e⟩ := List.mem_iff_getElem.mp hx
  obtain ⟨s, _, h1, h2, h3⟩ := paired_get' n.at_ (show L[i]? = some x by rw [List.getElem?_eq_getElem hi, e])
  rcases hq with rfl | rfl
  · exact ⟨_, h2⟩
  · exact ⟨_, h3⟩
theorem inner_append (L M : List Tri) : inner (L ++ M) = inner L ++ inner M := List.flatMap_append
theorem NewL.snoc (n : NewL H0 H L F) (e : Same H H') (ha : H a = none) (hb : H b = none) (hab : a ≠ b) (h1 : H' t = some (.tup [.ref a, .ref b])) (h2 : WordAt H' a s.1) (h3 : WaysAt H' b s.2) (f1 : Fresh H0 t) (f2 : Fresh H0 a) (f3 : Fresh H0 b) :
    NewL H0 H' (L ++ [(t, a, b)]) (F ++ [s]) := by
  refine ⟨Paired.snoc (n.same e).at_ ⟨h1, h2, h3⟩, fun x hx => ?_, ?_⟩
  · rcases List.mem_append.mp hx with hx | hx
    · exact n.new x hx
    · rw [List.mem_singleton.mp hx]
      exact ⟨f1, f2, f3⟩
  · rw [inner_append, List.nodup_append]
    refine ⟨n.nd, ?_, fun x hx y hy => ?_⟩
    · show [a, b].Nodup
      simp [hab]
    · obtain ⟨xs, hxs⟩ := n.there hx
      have hy : y = a ∨ y = b := by simpa [inner] using hy
      rcases hy with rfl | rfl
      · exact ne_of_none hxs ha
      · exact ne_of_none hxs hb
theorem NewL.form (n : NewL H0 H L F) (h : H p = some (.lst (L.map fun x => V.ref x.1))) : FormAt H p F := by
  refine ⟨L.map (·.1), by rw [List.map_map]; exact h, ?_⟩
  have e := n.at_
  clear h n
  induction e with
  | nil => exact .nil
  | cons h _ ih => exact .cons ⟨_, _, h.1, h.2.1, h.2.2⟩ ih
theorem NewF.form (n : NewF H0 H p L F) : FormAt H p F := n.all.form n.lst
theorem NewL.len (n : NewL H0 H L F) : L.length = F.length := Paired.length n.at_
theorem NewF.mk' (n : NewL H0 H L F) (h : H p = some (.lst (L.map fun x => V.ref x.1))) (f : Fresh H0 p) (o : p ∉ inner L) : NewF H0 H p L F := ⟨h, n, f, o⟩
/-- its k-th standing -/
theorem NewL.get (n : NewL H0 H L F) {k : Nat} (e : F[k]? = some s) : ∃ x : Tri, L[k]? = some x ∧ H x.1 = some (.tup [.ref x.2.1, .ref x.2.2]) ∧ WordAt H x.2.1 s.1 ∧ WaysAt H x.2.2 s.2 := paired_get n.at_ e
/-- another list is written -/
theorem paired_mem {α β : Type} {R S : α → β → Prop} : ∀ {l : List α} {m : List β}, Paired R l m → (∀ a b, a ∈ l → R a b → S a b) → Paired S l m
  | _, _, .nil, _ => .nil
  | _, _, .cons h t, f => .cons (f _ _ List.mem_cons_self h) (paired_mem t fun a b ha hr => f a b (List.mem_cons_of_mem _ ha) hr)
theorem NewL.upd {xs ys : List V} (n : NewL H0 H L F) (h : H p = some (.lst xs)) (o : p ∉ inner L) : NewL H0 (upd H p (.lst ys)) L F := by
  refine ⟨paired_mem n.at_ fun x s hx r => ?_, n.new, n.nd⟩
  have h1 : x.2.1 ≠ p := fun e => o (List.mem_flatMap.mpr ⟨x, hx, by simp [e]⟩)
  have h2 : x.2.2 ≠ p := fun e => o (List.mem_flatMap.mpr ⟨x, hx, by simp [e]⟩)
  exact ⟨(upd_ne (ne_of r.1 h (fun z => nomatch z))).trans r.1, Eq.trans (upd_ne h1) r.2.1, Eq.trans (upd_ne h2) r.2.2⟩
theorem NewL.updD {kvs : List (Key × V)} {u : HO} (n : NewL H0 H L F) (h : H p = some (.dK kvs)) : NewL H0 (L2.upd H p u) L F := by
  refine ⟨paired_mem n.at_ fun x s hx r => ?_, n.new, n.nd⟩
  exact ⟨(upd_ne (ne_of r.1 h (fun z => nomatch z))).trans r.1, Eq.trans (upd_ne (ne_of r.2.1 h (fun z => nomatch z))) r.2.1, Eq.trans (upd_ne (ne_of r.2.2 h (fun z => nomatch z))) r.2.2⟩
theorem not_inner_snoc (o : p ∉ inner L) (ha : p ≠ a) (hb : p ≠ b) : p ∉ inner (L ++ [(t, a, b)]) := by
  rw [inner_append]
  simp [inner] at o ⊢
  exact ⟨o, ha, hb⟩
/-- the ways of one standing are written anew -/
theorem NewL.setWays : ∀ {L : List Tri} {F : Form} {k : Nat} {x : Tri} {s : Std} {ws : Ways}, NewL H0 H L F → L[k]? = some x → F[k]? = some s → NewL H0 (L2.upd H x.2.2 (.lst (vWs ws))) L (F.set k (s.1, ws))
  | [], _, k, _, _, _, _, e, _ => by simp at e
  | y :: L, [], k, _, _, _, _, _, e => by simp at e
  | y :: L, f :: F, 0, x, s, ws, n, e1, e2 => by
    simp at e1 e2
    subst e1 e2
    obtain ⟨p, nw, nd⟩ := n
    cases p with
    | cons h t =>
      have nd' : (y.2.1 :: y.2.2 :: inner L).Nodup := nd
      rw [List.nodup_cons, List.nodup_cons] at nd'
      obtain ⟨d1, d2, d3⟩ := nd'
      have rest := NewL.upd (p := y.2.2) (ys := vWs ws) ⟨t, fun z hz => nw z (List.mem_cons_of_mem _ hz), d3⟩ h.2.2 d2
      refine ⟨?_, nw, nd⟩
      rw [List.set_cons_zero]
      exact .cons ⟨(upd_ne (ne_of h.1 h.2.2 (fun z => nomatch z))).trans h.1, Eq.trans (upd_ne fun z => d1 (by rw [z]; exact List.mem_cons_self)) h.2.1, upd_same⟩ rest.at_
  | y :: L, f :: F, k + 1, x, s, ws, n, e1, e2 => by
    rw [List.getElem?_cons_succ] at e1 e2
    obtain ⟨p, nw, nd⟩ := n
    cases p with
    | cons h t =>
      have nd' : (y.2.1 :: y.2.2 :: inner L).Nodup := nd
      rw [List.nodup_cons, List.nodup_cons] at nd'
      obtain ⟨d1, d2, d3⟩ := nd'
      have n' : NewL H0 H L F := ⟨t, fun z hz => nw z (List.mem_cons_of_mem _ hz), d3⟩
      have rest := NewL.setWays (ws := ws) n' e1 e2
      obtain ⟨z, hz, hz1, hz2, hz3⟩ := n'.get e2
      rw [e1] at hz
      cases hz
      have hx : x.2.2 ∈ inner L := List.mem_flatMap.mpr ⟨x, List.mem_of_getElem? e1, by simp⟩
      refine ⟨?_, nw, nd⟩
      rw [List.set_cons_succ]
      exact .cons ⟨(upd_ne (ne_of h.1 hz3 (fun z => nomatch z))).trans h.1, Eq.trans (upd_ne fun z => d1 (by rw [z]; exact List.mem_cons_of_mem _ hx)) h.2.1, Eq.trans (upd_ne fun z => d2 (by rw [z]; exact hx)) h.2.2⟩ rest.at_
end

/-! ### words compared -/
def txts (w : Word) : List PyData := w.map .str
theorem dpAll_word (K : PySem.W.Frag) (H : Hp) : ∀ w : Word, DpAll K H (vS w) (txts w)
  | [] => .nil
  | _ :: w => .cons (.str _) (dpAll_word K H w)
theorem dp_word {K : PySem.W.Frag} {H : Hp} {a : Addr} {w : Word} (h : WordAt H a w) : Dp K H (.ref a) (.list (txts w)) := .lst (SqL.of h) (dpAll_word K H w)
theorem eqvAll_txts : ∀ v w : Word, PyData.eqvAll (txts v) (txts w) = decide (v = w)
  | [], [] => rfl
  | [], _ :: _ => rfl
  | _ :: _, [] => rfl
  | x :: v, y :: w => by
    show (x == y && PyData.eqvAll (txts v) (txts w)) = _
    rw [eqvAll_txts v w]
    by_cases h : x = y
    · subst h
      by_cases h2 : v = w <;> simp [h2]
    · simp [h]
theorem layAll_txts : ∀ w : Word, (∀ t ∈ w, PyData.strOk t = true) → PyData.canLayAll0 (txts w) = true
  | [], _ => rfl
  | x :: w, h => by
    show (PyData.strOk x && PyData.canLayAll0 (txts w)) = true
    rw [h x List.mem_cons_self, layAll_txts w fun t ht => h t (List.mem_cons_of_mem _ ht)]
    rfl
theorem depthAll_txts : ∀ w : Word, PyData.depthAll (txts w) = 0
  | [] => rfl
  | x :: w => by
    show max 0 (PyData.depthAll (txts w)) = 0
    rw [depthAll_txts w]
    rfl
theorem shaped_word {w : Word} (h : ∀ t ∈ w, PyData.strOk t = true) : SeqAt.shaped (.list (txts w)) = true := by
  unfold SeqAt.shaped
  rw [Bool.and_eq_true]
  refine ⟨layAll_txts w h, decide_eq_true ?_⟩
  show PyData.depthAll (txts w) + 1 ≤ 64
  rw [depthAll_txts]
  decide
theorem eq_words {K : PySem.W.Frag} {H : Hp} {a b : Addr} {v w : Word} {Q : VK} (hv : WordAt H a v) (hw : WordAt H b w) (ov : ∀ t ∈ v, PyData.strOk t = true) (ow : ∀ t ∈ w, PyData.strOk t = true) (q : Q (.bl (decide (v = w))) H) : rEqD K (.ref a) (.ref b) H Q :=
  ⟨_, _, dp_word hv, dp_word hw, shaped_word ov, shaped_word ow, by
    show Q (.bl (PyData.eqvAll (txts v) (txts w))) H
    rw [eqvAll_txts]
    exact q⟩
theorem ne_words {K : PySem.W.Frag} {H : Hp} {a b : Addr} {v w : Word} {Q : VK} (hv : WordAt H a v) (hw : WordAt H b w) (ov : ∀ t ∈ v, PyData.strOk t = true) (ow : ∀ t ∈ w, PyData.strOk t = true) (q : Q (.bl (!decide (v = w))) H) : rNeD K (.ref a) (.ref b) H Q :=
  ⟨_, _, dp_word hv, dp_word hw, shaped_word ov, shaped_word ow, by
    show Q (.bl (!PyData.eqvAll (txts v) (txts w))) H
    rw [eqvAll_txts]
    exact q⟩

/-! ### a def whose code object is told -/
structure FunC (K : PySem.W.Frag) (x qual : Str) (st : Stmt) (f : Addr) (fd : FuncData) (c : Addr) : Prop where
  ex : ∃ (oc : Value) (od : Option Addr) (kV doc pm : Value) (an : Option Addr) (ct : Value) (osl : Array (Option Value)),
    fd = PySem.W.fnOf x qual (defArgs st) (defBody st) (defScope st) .none kV doc pm an (.ref c) ct ∧ K.lookup f = some ⟨oc, od, .func fd, osl⟩ ∧ PySem.W.codeIn K (.ref c) qual = true
theorem FunC.ok {P : Program} {w : World} {K : PySem.W.Frag} {mg : Str → Option Value} {base : Heap} {x qual : Str} {st : Stmt} {f c : Addr} {fd : FuncData} {N ps : List Str} {k : Nat} {sp : Sp} (F : FunC K x qual st f fd c) (S : FnScope N ps (defScope st)) (len : ∀ vs H Q E, sp vs H Q E → vs.length = ps.length)
    (hbody : ∀ (A : Around) (outer : List Env) (s : Shared) (H : Hp) (vs : List V) (Q : VK) (E : XK), Room k (A.deeper (envOfC qual (defScope st) s.heap.objs.size f (.ref c))) → sp vs H Q E →
      ∃ t, PSs (cxOf CX0 P w K mg base N qual (defScope st) f (.ref c) A outer s H E).nox (defBody st) t ∧ t { nx := fun _ H' => Q .non H', rt := Q } (L2.start N vs) H) : FnOk P w K mg base CX0 (k + 1) f fd ps sp := by
  obtain ⟨oc, od, kV, doc, pm, an, ct, osl, rfl, lk, hcd⟩ := F.ex
  exact fn_of lk hcd S len fun A outer s H vs Q E hr hsp => by
    obtain ⟨t, h, q⟩ := hbody A outer s H vs Q E hr hsp
    exact ⟨t, h.nox, q⟩
end QB
end

section
set_option linter.all false
set_option autoImplicit false
/-! mirrors: plain functions over words and standings -/
namespace QM
open PySem QB

def ixOf (tags : List Str) (t : Str) : Nat := tags.idxOf t
/-- the way of a standing for a tag -/
def way (tags : List Str) (s : Std) (t : Str) : Option Nat := (s.2[ixOf tags t]?).join
def wayAt (tags : List Str) (F : Form) (at_ : Nat) (t : Str) : Option Nat := (F[at_]?).bind fun s => way tags s t
def walkFrom (tags : List Str) (F : Form) : Nat → Nat → Word → Nat × Nat
  | at_, k, [] => (at_, k)
  | at_, k, t :: w => match wayAt tags F at_ t with
    | none => (at_, k)
    | some b => walkFrom tags F b (k + 1) w
def walk (tags : List Str) (F : Form) (w : Word) : Nat × Nat := walkFrom tags F 0 0 w
def wordOf (F : Form) (k : Nat) : Word := ((F[k]?).map (·.1)).getD []
def make (tags : List Str) (F : Form) (w : Word) : Word := wordOf F (walk tags F w).1 ++ w.drop (walk tags F w).2

structure Good (tags : List Str) (F : Form) : Prop where
  pos : 0 < F.length
  len : ∀ s ∈ F, s.2.length = tags.length
  to : ∀ s ∈ F, ∀ n, some n ∈ s.2 → n < F.length
  small : F.length ≤ 5000
theorem Good.way_lt {tags : List Str} {F : Form} (g : Good tags F) {s : Std} (hs : s ∈ F) {k n : Nat} (h : s.2[k]? = some (some n)) : n < F.length := g.to s hs n (List.mem_of_getElem? h)
theorem mem_of {F : Form} {k : Nat} {s : Std} (h : F[k]? = some s) : s ∈ F := List.mem_of_getElem? h
theorem Good.ways {tags : List Str} {F : Form} (g : Good tags F) {k : Nat} {s : Std} (h : F[k]? = some s) : s.2.length = tags.length := g.len s (mem_of h)
/-- the way of a standing for one of the tags -/
theorem Good.way {tags : List Str} {F : Form} (g : Good tags F) {k : Nat} {s : Std} {t : Str} (h : F[k]? = some s) (ht : t ∈ tags) : s.2[tags.idxOf t]? = some (way tags s t) := by
  have hlt : tags.idxOf t < s.2.length := by rw [g.ways h]; exact List.idxOf_lt_length_of_mem ht
  unfold QM.way ixOf
  rw [List.getElem?_eq_getElem hlt]
  rfl
theorem wayAt_of {tags : List Str} {F : Form} {k : Nat} {s : Std} {t : Str} (h : F[k]? = some s) : wayAt tags F k t = way tags s t := by
  unfold wayAt
  rw [h]
  rfl
theorem Good.wayLt {tags : List Str} {F : Form} (g : Good tags F) {k n : Nat} {s : Std} {t : Str} (h : F[k]? = some s) (ht : t ∈ tags) (e : QM.way tags s t = some n) : n < F.length := by
  have q := g.way h ht
  rw [e] at q
  exact g.way_lt (mem_of h) q
theorem wordOf_of {F : Form} {k : Nat} {s : Std} (h : F[k]? = some s) : wordOf F k = s.1 := by
  unfold wordOf
  rw [h]
  rfl
theorem walkFrom_lt {tags : List Str} {F : Form} (g : Good tags F) : ∀ (w : Word) (at_ k : Nat), at_ < F.length → (∀ t ∈ w, t ∈ tags) → (walkFrom tags F at_ k w).1 < F.length ∧ k ≤ (walkFrom tags F at_ k w).2 ∧ (walkFrom tags F at_ k w).2 ≤ k + w.length
  | [], at_, k, h, _ => ⟨h, Nat.le_refl _, Nat.le_refl _⟩
  | t :: w, at_, k, h, ht => by
    unfold walkFrom
    cases e : wayAt tags F at_ t with
    | none => exact ⟨h, Nat.le_refl _, Nat.le_add_right _ _⟩
    | some b =>
      have hF : F[at_]? = some F[at_] := by simp [h]
      have hb : b < F.length := g.wayLt hF (ht t List.mem_cons_self) (by rw [← wayAt_of hF]; exact e)
      obtain ⟨h1, h2, h3⟩ := walkFrom_lt g w b (k + 1) hb fun x hx => ht x (List.mem_cons_of_mem _ hx)
      show (walkFrom tags F b (k + 1) w).1 < F.length ∧ k ≤ (walkFrom tags F b (k + 1) w).2 ∧ (walkFrom tags F b (k + 1) w).2 ≤ k + (t :: w).length
      rw [List.length_cons]
      exact ⟨h1, by omega, by omega⟩
theorem walk_lt {tags : List Str} {F : Form} (g : Good tags F) {w : Word} (h : ∀ t ∈ w, t ∈ tags) : (walk tags F w).1 < F.length ∧ (walk tags F w).2 ≤ w.length := by
  obtain ⟨h1, _, h3⟩ := walkFrom_lt g w 0 0 g.pos h
  exact ⟨h1, by rw [Nat.zero_add] at h3; exact h3⟩

/-! ### classes of standings -/
open L2 in
def wayNum (cs : List Nat) : Option Nat → NestedKey
  | none => .num (-1)
  | some n => .num ((cs.getD n 0 : Nat) : Int)
def partKey (cs : List Nat) (p : Nat × Std) : NestedKey := .tup [.num (p.1 : Int), .tup (p.2.2.map (wayNum cs))]
def partKeys (cs : List Nat) (F : Form) : List NestedKey := (cs.zip F).map (partKey cs)
def part (cs : List Nat) (F : Form) : List Nat := QD.numb (partKeys cs F)
def wordKey (s : Std) : NestedKey := .tup (s.1.map .text)
def wordKeys (F : Form) : List NestedKey := F.map wordKey
def maxOf (cs : List Nat) : Nat := cs.foldl max 0
def alikeLoop (F : Form) : Nat → Nat → List Nat → List Nat
  | 0, _, cs => cs
  | f + 1, many, cs => if many ≤ maxOf cs then alikeLoop F f (maxOf cs + 1) (part cs F) else cs
def alike (F : Form) : List Nat := alikeLoop F (F.length + 1) 0 (QD.numb (wordKeys F))

theorem partKeys_len {cs : List Nat} {F : Form} (h : cs.length = F.length) : (partKeys cs F).length = F.length := by
  unfold partKeys
  rw [List.length_map, List.length_zip, h, Nat.min_self]
theorem part_len {cs : List Nat} {F : Form} (h : cs.length = F.length) : (part cs F).length = F.length := by
  unfold part
  rw [QD.numb_len, partKeys_len h]
theorem maxOf_le : ∀ (cs : List Nat) (a b : Nat), cs.foldl max a ≤ b ↔ a ≤ b ∧ ∀ x ∈ cs, x ≤ b
  | [], a, b => by simp
  | c :: cs, a, b => by
    rw [List.foldl_cons, maxOf_le cs (max a c) b]
    constructor
    · rintro ⟨h1, h2⟩
      refine ⟨by omega, fun x hx => ?_⟩
      rcases List.mem_cons.mp hx with rfl | hx
      · omega
      · exact h2 x hx
    · rintro ⟨h1, h2⟩
      have := h2 c List.mem_cons_self
      exact ⟨by omega, fun x hx => h2 x (List.mem_cons_of_mem _ hx)⟩
theorem le_maxOf {cs : List Nat} {x : Nat} (h : x ∈ cs) : x ≤ maxOf cs := ((maxOf_le cs 0 _).mp (Nat.le_refl _)).2 x h
theorem maxOf_eq {cs : List Nat} {m : Nat} (h : m ∈ cs) (hm : ∀ x ∈ cs, x ≤ m) : maxOf cs = m :=
  Nat.le_antisymm ((maxOf_le cs 0 m).mpr ⟨Nat.zero_le _, hm⟩) (le_maxOf h)
theorem numb_lt {α : Type} [DecidableEq α] {ms : List α} {x : Nat} (h : x ∈ QD.numb ms) : x < (QD.seenOf ms).length := by
  obtain ⟨m, hm, rfl⟩ := List.mem_map.mp h
  exact List.idxOf_lt_length_of_mem ((QD.mem_seenOf ms m).mpr hm)
theorem numb_lt' {α : Type} [DecidableEq α] {ms : List α} {x : Nat} (h : x ∈ QD.numb ms) : x < ms.length := Nat.lt_of_lt_of_le (numb_lt h) (QD.seenOf_len ms)

/-! ### the order in which standings are met -/
def clsOf (cs : List Nat) (n : Nat) : Nat := cs.getD n 0
def visit (cs : List Nat) (met : List Nat) : Option Nat → List Nat
  | none => met
  | some n => if clsOf cs n ∈ met.map (clsOf cs) then met else met ++ [n]
def visitAll (cs : List Nat) (met : List Nat) (ws : Ways) : List Nat := ws.foldl (visit cs) met
def newWay (cs met : List Nat) (w : Option Nat) : Option Nat := w.map fun n => (met.map (clsOf cs)).idxOf (clsOf cs n)
def newStd (cs met : List Nat) (s : Std) : Std := (s.1, s.2.map (newWay cs met))
def stdOf (F : Form) (k : Nat) : Std := F.getD k ([], [])
def orderLoop (F : Form) (cs : List Nat) : Nat → List Nat → Form → Form
  | 0, _, told => told
  | f + 1, met, told => if told.length < met.length then
      orderLoop F cs f (visitAll cs met (stdOf F (met.getD told.length 0)).2) (told ++ [newStd cs (visitAll cs met (stdOf F (met.getD told.length 0)).2) (stdOf F (met.getD told.length 0))])
    else told
def inOrder (F : Form) (cs : List Nat) : Form := orderLoop F cs (F.length + 1) [0] []
theorem stdOf_get {F : Form} {k : Nat} (h : k < F.length) : F[k]? = some (stdOf F k) := by
  unfold stdOf
  rw [List.getD_eq_getElem?_getD, List.getElem?_eq_getElem h]
  rfl
theorem nodup_le : ∀ (n : Nat) (l : List Nat), l.Nodup → (∀ x ∈ l, x < n) → l.length ≤ n
  | 0, l, _, h => by
    cases l with
    | nil => exact Nat.le_refl _
    | cons x l => exact absurd (h x List.mem_cons_self) (Nat.not_lt_zero _)
  | n + 1, l, nd, h => by
    have h1 := nodup_le n (l.erase n) (nd.erase n) fun x hx => by
      have hx' := List.mem_of_mem_erase hx
      have h2 := h x hx'
      have h3 : x ≠ n := fun e => by
        rw [e] at hx
        exact nd.not_mem_erase hx
      omega
    have h4 : l.length ≤ (l.erase n).length + 1 := by
      rw [List.length_erase]
      split <;> omega
    omega
/-- what holds of the met ones -/
structure Met (F : Form) (cs met : List Nat) : Prop where
  nd : (met.map (clsOf cs)).Nodup
  lt : ∀ m ∈ met, m < F.length
theorem Met.len {F : Form} {cs met : List Nat} (h : Met F cs met) : met.length ≤ F.length :=
  nodup_le _ _ ((List.pairwise_map.mp h.nd).imp fun h e => h (congrArg _ e)) h.lt
theorem Met.visit {F : Form} {cs met : List Nat} (h : Met F cs met) {w : Option Nat} (hw : ∀ n, w = some n → n < F.length) : Met F cs (visit cs met w) := by
  cases w with
  | none => exact h
  | some n =>
    unfold QM.visit
    show Met F cs (if clsOf cs n ∈ met.map (clsOf cs) then met else met ++ [n])
    by_cases hm : clsOf cs n ∈ met.map (clsOf cs)
    · rw [if_pos hm]
      exact h
    · rw [if_neg hm]
      refine ⟨?_, fun m hm' => ?_⟩
      · rw [List.map_append, List.nodup_append]
        exact ⟨h.nd, by simp, fun a ha b hb => by rw [List.mem_singleton.mp hb]; exact fun e => hm (e ▸ ha)⟩
      · rcases List.mem_append.mp hm' with q | q
        · exact h.lt m q
        · rw [List.mem_singleton.mp q]
          exact hw n rfl
theorem visit_pre (cs met : List Nat) (w : Option Nat) : ∃ t, visit cs met w = met ++ t := by
  cases w with
  | none => exact ⟨[], by simp [visit]⟩
  | some n =>
    by_cases h : clsOf cs n ∈ met.map (clsOf cs)
    · exact ⟨[], by simp [visit, h]⟩
    · exact ⟨[n], by simp [visit, h]⟩
theorem visitAll_pre (cs : List Nat) : ∀ (ws : Ways) (met : List Nat), ∃ t, visitAll cs met ws = met ++ t
  | [], met => ⟨[], by simp [visitAll]⟩
  | w :: ws, met => by
    obtain ⟨t, e⟩ := visit_pre cs met w
    obtain ⟨t2, e2⟩ := visitAll_pre cs ws (visit cs met w)
    refine ⟨t ++ t2, ?_⟩
    show visitAll cs (visit cs met w) ws = _
    rw [e2, e, List.append_assoc]
theorem visit_has (cs met : List Nat) (n : Nat) : clsOf cs n ∈ (visit cs met (some n)).map (clsOf cs) := by
  by_cases h : clsOf cs n ∈ met.map (clsOf cs)
  · simpa [visit, h] using h
  · simp [visit, h]
theorem visitAll_has (cs : List Nat) : ∀ (ws : Ways) (met : List Nat) (n : Nat), some n ∈ ws → clsOf cs n ∈ (visitAll cs met ws).map (clsOf cs)
  | w :: ws, met, n, h => by
    rcases List.mem_cons.mp h with e | h
    · obtain ⟨t, e2⟩ := visitAll_pre cs ws (visit cs met w)
      show _ ∈ (visitAll cs (visit cs met w) ws).map _
      rw [e2, List.map_append]
      exact List.mem_append_left _ (by rw [← e]; exact visit_has cs met n)
    · exact visitAll_has cs ws (visit cs met w) n h
theorem Met.visitAll {F : Form} {cs : List Nat} : ∀ {ws : Ways} {met : List Nat}, Met F cs met → (∀ n, some n ∈ ws → n < F.length) → Met F cs (visitAll cs met ws)
  | [], _, h, _ => h
  | w :: ws, met, h, hw => Met.visitAll (ws := ws) (met := QM.visit cs met w) (h.visit fun n e => hw n (by rw [e]; exact List.mem_cons_self)) fun n hn => hw n (List.mem_cons_of_mem _ hn)

/-! ### needless ways -/
def isNeedless (F : Form) (S : List Bool) (word : Word) (t : Str) (n : Nat) : Bool := S.getD n false && decide ((stdOf F n).1 = word ++ [t])
def pruneWay (F : Form) (S : List Bool) (word : Word) (t : Str) : Option Nat → Option Nat
  | none => none
  | some n => if isNeedless F S word t n = true then none else some n
def pruneWays (tags : List Str) (F : Form) (S : List Bool) (s : Std) : Ways := (tags.zip s.2).map fun p => pruneWay F S s.1 p.1 p.2
def pruneStd (tags : List Str) (F : Form) (S : List Bool) (s : Std) : Std := (s.1, pruneWays tags F S s)
def needStep (tags : List Str) (F : Form) (st : Form × List Bool) (k : Nat) : Form × List Bool :=
  (st.1.set k (pruneStd tags F st.2 (stdOf st.1 k)), st.2.set k ((pruneWays tags F st.2 (stdOf st.1 k)).all Option.isNone))
def keyOf (F : Form) (k : Nat) : Int := -((stdOf F k).1.length : Int)
def byLen (F : Form) : List Nat := (List.range F.length).mergeSort fun i j => decide (keyOf F i ≤ keyOf F j)
def needFold (tags : List Str) (F : Form) (ks : List Nat) : Form × List Bool := ks.foldl (needStep tags F) (F, List.replicate F.length false)
def needless (tags : List Str) (F : Form) : Form := (needFold tags F (byLen F)).1
def least (tags : List Str) (F : Form) : Form := inOrder (needless tags F) (alike (needless tags F))

theorem pruneWays_len {tags : List Str} {F : Form} {S : List Bool} {s : Std} (h : s.2.length = tags.length) : (pruneWays tags F S s).length = tags.length := by
  unfold pruneWays
  rw [List.length_map, List.length_zip, h, Nat.min_self]
theorem pruneWays_get {tags : List Str} {F : Form} {S : List Bool} {s : Std} {k : Nat} {t : Str} {w : Option Nat} (ht : tags[k]? = some t) (hw : s.2[k]? = some w) : (pruneWays tags F S s)[k]? = some (pruneWay F S s.1 t w) := by
  have ez : (tags.zip s.2)[k]? = some (t, w) := by
    rw [List.getElem?_zip_eq_some]
    exact ⟨ht, hw⟩
  unfold pruneWays
  rw [List.getElem?_map, ez]
  rfl
theorem pruneWay_some {F : Form} {S : List Bool} {word : Word} {t : Str} {w : Option Nat} {n : Nat} (h : pruneWay F S word t w = some n) : w = some n := by
  cases w with
  | none => cases h
  | some m =>
    have h : (if isNeedless F S word t m = true then none else some m) = some n := h
    by_cases e : isNeedless F S word t m = true
    · rw [if_pos e] at h
      cases h
    · rw [if_neg e] at h
      exact h
theorem pruneWays_some {tags : List Str} {F : Form} {S : List Bool} {s : Std} {n : Nat} (h : some n ∈ pruneWays tags F S s) : some n ∈ s.2 := by
  obtain ⟨p, hp, e⟩ := List.mem_map.mp h
  rw [← pruneWay_some e]
  exact (List.of_mem_zip hp).2
/-- what stays through the steps -/
structure Pruned (tags : List Str) (F : Form) (st : Form × List Bool) : Prop where
  len : st.1.length = F.length
  lenS : st.2.length = F.length
  word : ∀ k s, st.1[k]? = some s → s.1 = (stdOf F k).1 ∧ s.2.length = (stdOf F k).2.length ∧ ∀ n, some n ∈ s.2 → some n ∈ (stdOf F k).2
theorem Pruned.start (tags : List Str) (F : Form) : Pruned tags F (F, List.replicate F.length false) := by
  refine ⟨rfl, List.length_replicate, fun k s h => ?_⟩
  have hk : k < F.length := (List.getElem?_eq_some_iff.mp h).1
  have h : F[k]? = some s := h
  rw [stdOf_get hk] at h
  cases h
  exact ⟨rfl, rfl, fun n h => h⟩
theorem Pruned.step {tags : List Str} {F : Form} {st : Form × List Bool} (p : Pruned tags F st) (g : Good tags F) {k : Nat} (hk : k < F.length) : Pruned tags F (needStep tags F st k) := by
  have h1 : st.1[k]? = some (stdOf st.1 k) := stdOf_get (by rw [p.len]; exact hk)
  obtain ⟨w1, w2, w3⟩ := p.word k _ h1
  have gl : (stdOf F k).2.length = tags.length := g.ways (stdOf_get hk)
  refine ⟨by show (st.1.set k _).length = _; rw [List.length_set, p.len], by show (st.2.set k _).length = _; rw [List.length_set, p.lenS], fun j s hj => ?_⟩
  have hj : (st.1.set k (pruneStd tags F st.2 (stdOf st.1 k)))[j]? = some s := hj
  by_cases e : k = j
  · subst e
    rw [List.getElem?_set_self (by rw [p.len]; exact hk)] at hj
    cases hj
    refine ⟨w1, ?_, fun n hn => w3 n (pruneWays_some hn)⟩
    show (pruneWays tags F st.2 (stdOf st.1 k)).length = _
    rw [pruneWays_len (by rw [w2, gl]), gl]
  · rw [List.getElem?_set_ne e] at hj
    exact p.word j s hj
theorem Pruned.fold {tags : List Str} {F : Form} (g : Good tags F) : ∀ (ks : List Nat) (st : Form × List Bool), Pruned tags F st → (∀ k ∈ ks, k < F.length) → Pruned tags F (ks.foldl (needStep tags F) st)
  | [], _, p, _ => p
  | k :: ks, st, p, h => Pruned.fold g ks (needStep tags F st k) (p.step g (h k List.mem_cons_self)) fun j hj => h j (List.mem_cons_of_mem _ hj)
theorem byLen_lt {F : Form} {k : Nat} (h : k ∈ byLen F) : k < F.length := by
  unfold byLen at h
  rw [List.mem_mergeSort] at h
  exact List.mem_range.mp h
theorem byLen_len (F : Form) : (byLen F).length = F.length := by
  unfold byLen
  rw [List.length_mergeSort, List.length_range]
theorem mix_get {α : Type} {P Q : List α} {j : Nat} (h : P.length = Q.length) (hj : j < Q.length) : (P.take j ++ Q.drop j)[j]? = Q[j]? := by
  rw [List.getElem?_append_right (by rw [List.length_take]; omega), List.length_take, Nat.min_eq_left (by omega), Nat.sub_self, List.getElem?_drop, Nat.add_zero]
theorem mix_set {α : Type} {P Q : List α} {j : Nat} {x : α} (h : P.length = Q.length) (hj : P[j]? = some x) : (P.take j ++ Q.drop j).set j x = P.take (j + 1) ++ Q.drop (j + 1) := by
  have hj' : j < P.length := (List.getElem?_eq_some_iff.mp hj).1
  rw [List.set_append_right _ _ (by rw [List.length_take]; omega), List.length_take, Nat.min_eq_left (by omega), Nat.sub_self, List.take_succ, hj, List.drop_eq_getElem_cons (by omega : j < Q.length), List.set_cons_zero]
  simp
theorem mix_same {α : Type} {P Q : List α} {j : Nat} {x : α} (h : P.length = Q.length) (hj : P[j]? = some x) (hq : Q[j]? = some x) : P.take j ++ Q.drop j = P.take (j + 1) ++ Q.drop (j + 1) := by
  rw [← mix_set h hj]
  have hl : (P.take j ++ Q.drop j)[j]? = some x := by
    rw [mix_get h (List.getElem?_eq_some_iff.mp hq).1]
    exact hq
  refine List.ext_getElem? fun i => ?_
  by_cases e : j = i
  · subst e
    rw [List.getElem?_set_self (List.getElem?_eq_some_iff.mp hl).1, hl]
  · rw [List.getElem?_set_ne e]
end QM
end

section
set_option Elab.async false
set_option linter.all false
set_option maxRecDepth 100000
/-! Qown: len and == by the class's own methods, with any answer. -/
namespace QO
open PySem PySem.Spec PyProof.Rows L2
section
variable {X : Cx} {CX : CXT} {k : Nat} {f C : Addr} {fd : FuncData} {ps : List Str} {sp : Sp} {E : XK}
theorem run_in {A : Around} {pins : List (Addr × Obj)} {σ : L2.St} {H : Hp} {s : Shared} {Q : VK} {us : List Value} {vs : List V} (sb : Sub X k A) (F : FnOk X.prog X.w X.K X.mg X.base CX k f fd ps sp) (hb : Binds X.K fd ps []) (hx : Passes CX X E)
    (I : Inv X pins σ H s) (r : Vals vs us) (h : sp vs H Q E) : wpAny (model X.prog X.w) A (call (.ref f) us) (EP X pins σ Q) X.xe s := by
  have hl : us.length = ps.length := by rw [← r.length]; exact F.len _ _ _ _ h
  have e0 : Env0 X.prog X.w X.K X.mg X.base A X.stack s H := by
    have e := I.env0
    exact ⟨by rw [sb.fr]; exact e.frames, e.mod, e.bs, e.bsz, e.funs, e.frf, e.hok, e.bare⟩
  refine wpAny_call (codeAny_mono (F.run A X.stack s H ⟨us, []⟩ us vs Q E sb.room e0 (by
    have := hb s us I.kIn (by simpa using hl)
    simpa using this) r h) fun r s' hq => ?_)
  cases r with
  | error e => exact hx pins σ H s e s' I hq
  | ok fl =>
    cases fl with
    | ret u => exact I.after hq
    | next => exact False.elim hq
    | brk => exact False.elim hq
    | cont => exact False.elim hq
/-- len(x) by an own __len__ -/
def rLenO (C : Addr) (sp : Sp) (E : XK) : List V → Hp → VK → Prop := fun xs H Q => ∃ a dx fs, xs = [.ref a] ∧ H a = some (.ins C dx fs) ∧ sp [.ref a] H (fun v H' => ∃ n : Nat, v = .int (n : Int) ∧ n < sizeLine ∧ Q v H') E
theorem call_lenO (F : FnOk X.prog X.w X.K X.mg X.base CX k f fd ps sp) (hm : Meth X.K C "__len__" f) (hr : Room (k + 1) X.A) (hb : Binds X.K fd ps []) (hx : Passes CX X E) : CallR X (.builtin "len") (rLenO C sp E) := by
  intro pins s σ H xs us Q I r h
  obtain ⟨a, dx, fs, rfl, ha, h⟩ := h
  obtain ⟨u, rfl, ru⟩ := vals1 r
  cases ru
  obtain ⟨mA, J, _⟩ := ins_get I.hok ha
  obtain ⟨od, J, _⟩ := J.look
  obtain ⟨m, hF⟩ := I.fr
  refine PySem.W.len_K hF I.ok.mod.kin J hm.at_ hm.fn ?_
  refine wpAny_mono (run_in (A := X.A.in1) (vs := [.ref a]) ⟨hr.in1, rfl⟩ F hb hx I (.cons rfl .nil) h) (fun v s' q => ?_) fun _ _ x => x
  obtain ⟨v', H', I', rv, n, rfl, hn, q⟩ := q
  obtain ⟨t, rfl⟩ := (show ∃ t, v = Value.int (n : Int) t from rv)
  have hs : sizeLine = 16777216 := sizeLine_eq
  exact ⟨⟨by omega, by omega⟩, .int (n : Int), H', I'.tok _, ⟨_, rfl⟩, q⟩
/-- x == y by an own __eq__ -/
def rEqO (K : PySem.W.Frag) (C : Addr) (sp : Sp) (E : XK) : R2 := fun x y H Q => ∃ a dx fs t, x = .ref a ∧ H a = some (.ins C dx fs) ∧ TyOf K H y t ∧ PySem.W.notFirst K C t = true ∧ sp [.ref a, y] H (fun v H' => ∃ b : Bool, v = .bl b ∧ Q v H') E
theorem looks_ty {pins : List (Addr × Obj)} {σ : L2.St} {H : Hp} {s : Shared} {x : V} {u t : Value} (I : Inv X pins σ H s) (rx : RelV x u) (ty : TyOf X.K H x t) : PySem.W.Looks (model X.prog X.w) s.heap (typeOf u) t := by
  have ob : ∀ {a : Addr} {o : Obj}, s.heap.get? a = some o → PySem.W.Looks (model X.prog X.w) s.heap (typeOf (.ref a)) o.cls := fun e => PySem.W.Looks.ld e |>.andThen (PySem.W.Looks.now)
  cases ty with
  | non => cases (show u = Value.none from rx); exact PySem.W.Looks.of_pure rfl
  | bl y => cases (show u = Value.bool y from rx); exact PySem.W.Looks.of_pure rfl
  | int i => obtain ⟨t, q⟩ := (show ∃ t, u = Value.int i t from rx); cases q; exact PySem.W.Looks.of_pure rfl
  | str y => obtain ⟨t, q⟩ := (show ∃ t, u = Value.str y t from rx); cases q; exact PySem.W.Looks.of_pure rfl
  | flt y => obtain ⟨t, q⟩ := (show ∃ t, u = Value.float y t from rx); cases q; exact PySem.W.Looks.of_pure rfl
  | @lst a xs ea =>
    cases (show u = Value.ref a from rx)
    obtain ⟨_, _, n, _, h1⟩ := (show ObjOk X.prog X.w H s.heap a (.lst xs) from I.hok a _ ea)
    exact ob h1
  | @frz a ob' xs ea =>
    cases (show u = Value.ref a from rx)
    obtain ⟨_, _, _, n, _, h1⟩ := (show ObjOk X.prog X.w H s.heap a (.frz ob' (.lst xs)) from I.hok a _ ea)
    exact ob h1
  | @tup a xs ea =>
    cases (show u = Value.ref a from rx)
    obtain ⟨_, _, _, o, h1, h2, _⟩ := (show ObjOk X.prog X.w H s.heap a (.tup xs) from I.hok a _ ea)
    rw [← h2]
    exact ob h1
  | @dK a kvs ea =>
    cases (show u = Value.ref a from rx)
    obtain ⟨_, _, vs, _, o, es, ep, h1, h2, _⟩ := (show ObjOk X.prog X.w H s.heap a (.dK kvs) from I.hok a _ ea)
    rw [← h2.1]
    exact ob h1
  | @dT a kvs ea =>
    cases (show u = Value.ref a from rx)
    obtain ⟨_, _, xs, _, o, es, ep, h1, h2, _⟩ := (show ObjOk X.prog X.w H s.heap a (.dT kvs) from I.hok a _ ea)
    rw [← h2.1]
    exact ob h1
  | @ins a C dx fs ea cl ha hn htk hm =>
    cases (show u = Value.ref a from rx)
    obtain ⟨mA, O, _⟩ := ins_get I.hok ea
    obtain ⟨od, J, _⟩ := O.look
    exact J.type
theorem op_eqO (F : FnOk X.prog X.w X.K X.mg X.base CX k f fd ps sp) (hm : Meth X.K C "__eq__" f) (hr : Room k X.A) (hb : Binds X.K fd ps []) (hx : Passes CX X E) : OpR X (compareOp .Eq) (rEqO X.K C sp E) := by
  intro pins s σ H x y v u Q I rx ry h
  obtain ⟨a, dx, fs, t, rfl, ha, ht, hn, h⟩ := h
  cases rx
  obtain ⟨mA, J, _⟩ := ins_get I.hok ha
  obtain ⟨od, J, _⟩ := J.look
  obtain ⟨m, hF⟩ := I.fr
  show wpAny (model X.prog X.w) X.A (richCompare .Eq _ u) (EP X pins σ Q) X.xe s
  refine PySem.W.cmp_K (op := .Eq) hr.units0 hF I.ok.mod.kin J (looks_ty I ry ht) hn hm.at_ hm.fn ?_
  refine wpAny_mono (run_in (A := X.A) (vs := [.ref a, y]) ⟨hr, rfl⟩ F hb hx I (.cons rfl (.cons ry .nil)) h) (fun v s' q => ?_) fun _ _ x => x
  obtain ⟨v', H', I', rv, b, rfl, q⟩ := q
  cases rv
  exact ⟨.bl b, H', I', rfl, q⟩
/-- x in y by an own __contains__ -/
def rInO (C : Addr) (sp : Sp) (E : XK) (neg : Bool) : R2 := fun x y H Q => ∃ a dx fs, y = .ref a ∧ H a = some (.ins C dx fs) ∧ sp [.ref a, x] H (fun v H' => ∃ b : Bool, v = .bl b ∧ Q (.bl (if neg then !b else b)) H') E
theorem op_inO (F : FnOk X.prog X.w X.K X.mg X.base CX k f fd ps sp) (hm : Meth X.K C "__contains__" f) (hr : Room k X.A) (hb : Binds X.K fd ps []) (hx : Passes CX X E) : OpR X (compareOp .In) (rInO C sp E false) := by
  intro pins s σ H x y v u Q I rx ry h
  obtain ⟨a, dx, fs, rfl, ha, h⟩ := h
  cases ry
  obtain ⟨mA, J, _⟩ := ins_get I.hok ha
  obtain ⟨od, J, _⟩ := J.look
  obtain ⟨m, hF⟩ := I.fr
  refine PySem.W.in_K hF I.ok.mod.kin J hm.at_ hm.fn ?_
  refine wpAny_mono (run_in (A := X.A) (vs := [.ref a, x]) ⟨hr, rfl⟩ F hb hx I (.cons rfl (.cons rx .nil)) h) (fun v' s' q => ?_) fun _ _ x => x
  obtain ⟨z, H', I', rv, b, rfl, q⟩ := q
  cases rv
  exact wpAny_truthy_bool ⟨.bl b, H', I', rfl, q⟩
theorem op_notInO (F : FnOk X.prog X.w X.K X.mg X.base CX k f fd ps sp) (hm : Meth X.K C "__contains__" f) (hr : Room k X.A) (hb : Binds X.K fd ps []) (hx : Passes CX X E) : OpR X (compareOp .NotIn) (rInO C sp E true) := by
  intro pins s σ H x y v u Q I rx ry h
  obtain ⟨a, dx, fs, rfl, ha, h⟩ := h
  cases ry
  obtain ⟨mA, J, _⟩ := ins_get I.hok ha
  obtain ⟨od, J, _⟩ := J.look
  obtain ⟨m, hF⟩ := I.fr
  refine PySem.W.notIn_K hF I.ok.mod.kin J hm.at_ hm.fn ?_
  refine wpAny_mono (run_in (A := X.A) (vs := [.ref a, x]) ⟨hr, rfl⟩ F hb hx I (.cons rfl (.cons rx .nil)) h) (fun v' s' q => ?_) fun _ _ x => x
  obtain ⟨z, H', I', rv, b, rfl, q⟩ := q
  cases rv
  exact wpAny_truthy_bool ⟨.bl (!b), H', I', rfl, q⟩
end
/-- text * 0, text * 1 -/
theorem op_mul_str {X : Cx} : OpR X (binaryOp .Mult) (fun x y H Q => ∃ z, x = .str z ∧ ((y = .int 0 ∧ Q (.str Str.empty) H) ∨ (y = .int 1 ∧ Q (.str z) H))) := by
  intro pins s σ H x y v u Q I rx ry h
  obtain ⟨z, rfl, h⟩ := h
  obtain ⟨t, rfl⟩ := (show ∃ t, v = Value.str z t from rx)
  rcases h with ⟨rfl, q⟩ | ⟨rfl, q⟩
  · obtain ⟨t', rfl⟩ := (show ∃ t, u = Value.int 0 t from ry)
    exact PySem.P.mul_str_none (by decide) (by decide) ⟨.str Str.empty, H, I.tok _, ⟨_, rfl⟩, q⟩
  · obtain ⟨t', rfl⟩ := (show ∃ t, u = Value.int 1 t from ry)
    refine PySem.P.mul_str (by decide) (fun _ e => by simp at e) (fun _ e => by simp at e) ?_
    rw [if_neg (by decide), if_pos (by simp)]
    exact ⟨.str z, H, I, ⟨_, rfl⟩, q⟩
/-- xs.count(y), flat things -/
def rCount (K : PySem.W.Frag) : V → List V → Hp → VK → Prop := fun x xs H Q => ∃ (a : Addr) (ys : List V) (y : V), x = .ref a ∧ xs = [y] ∧ SqL K H a ys ∧ flatV y = true ∧ ys.all flatV = true ∧ Q (.int ((ys.countP fun z => eqV z y : Nat) : Int)) H
theorem count_eqU {y : V} : ∀ {ys : List V} {us : List Value}, Vals ys us → ys.all flatV = true → us.countP (eqU y) = ys.countP fun z => eqV z y
  | _, _, .nil, _ => rfl
  | z :: ys, u :: us, .cons r t, h => by
    rw [List.all_cons, Bool.and_eq_true] at h
    rw [List.countP_cons, List.countP_cons, count_eqU t h.2, eqU_of r h.1]
theorem mt_countL {X : Cx} : MtR X "list.count" (rCount X.K) := by
  intro pins s σ H x xs v us Q I rx rxs h
  obtain ⟨a, ys, y, rfl, rfl, hs, fy, fys, q⟩ := h
  cases rx
  cases rxs with
  | cons ry rt =>
    rename_i uy ut
    cases rt
    obtain ⟨its, rv, ⟨⟨cls, dd, data, sl⟩, n, ho, hc, hdn, hd⟩, hlen⟩ := I.list hs
    simp only at hc hd
    subst hc hd
    refine call_meets PySem.F.slot_list_count ⟨_, ho, rfl⟩ PySem.F.entry_list_count (PySem.F.args_list_count_2 _ _)
      (SeqAt.list_countAt a its.toArray n dd sl uy (eqU y)) ⟨ho, fun u' hu' => mem_eqAt ry fy rv fys u' (by simpa using hu'), ?_⟩
    refine ⟨.int ((ys.countP fun z => eqV z y : Nat) : Int), H, I.tok _, ⟨s.toks, ?_⟩, q⟩
    show Value.int ((its.toArray.toList.countP (eqU y) : Nat) : Int) s.toks = _
    rw [show its.toArray.toList.countP (eqU y) = ys.countP fun z => eqV z y from count_eqU rv fys]
theorem mt_countK {X : Cx} (K : PySem.W.Frag) (h : X.K = K := by rfl) : MtR X "list.count" (rCount K) := h ▸ mt_countL
/-- what isinstance and == ask of an own class -/
structure OwnC (K : PySem.W.Frag) (C : Addr) : Prop where
  ha : PySem.W.findIn K (.ref C) "__class__" = some (some (.builtin "object.__class__"))
  hn : PySem.W.specialIn K (.builtin "object.__class__") "__get__" = some (some (.builtin "getset_descriptor.__get__"))
  htk : PySem.W.takesIn K (.builtin "object.__class__") = some true
  hm : PySem.W.mroIn K C (.type "object") = some true
  kL : PySem.W.kitOne K (.type "list") (.ref C) = some false
  kT : PySem.W.kitOne K (.type "tuple") (.ref C) = some false
  kS : PySem.W.kitOne K (.type "str") (.ref C) = some false
  kI : PySem.W.kitOne K (.type "int") (.ref C) = some false
  kB : PySem.W.kitOne K (.type "bool") (.ref C) = some false
  kN : PySem.W.kitOne K (.type "NoneType") (.ref C) = some false
  kD : PySem.W.kitOne K (.type "dict") (.ref C) = some false
  cL : PySem.W.kitOne K (.ref C) (.type "list") = some false
  cT : PySem.W.kitOne K (.ref C) (.type "tuple") = some false
  cS : PySem.W.kitOne K (.ref C) (.type "str") = some false
  cI : PySem.W.kitOne K (.ref C) (.type "int") = some false
  cB : PySem.W.kitOne K (.ref C) (.type "bool") = some false
  nL : PySem.W.notFirst K C (.type "list") = true
  nT : PySem.W.notFirst K C (.type "tuple") = true
  nS : PySem.W.notFirst K C (.type "str") = true
  nI : PySem.W.notFirst K C (.type "int") = true
  nB : PySem.W.notFirst K C (.type "bool") = true
  nN : PySem.W.notFirst K C (.type "NoneType") = true
  nD : PySem.W.notFirst K C (.type "dict") = true
theorem OwnC.self {K : PySem.W.Frag} {C : Addr} : PySem.W.kitOne K (.ref C) (.ref C) = some true := if_pos (by simp)
theorem OwnC.same {K : PySem.W.Frag} {C : Addr} : PySem.W.notFirst K C (.ref C) = true := by simp [PySem.W.notFirst]
theorem OwnC.ty {K : PySem.W.Frag} {C a dx : Addr} {H : Hp} {fs : List (Str × V)} (o : OwnC K C) (c : Cls K C) (e : H a = some (.ins C dx fs)) : TyOf K H (.ref a) (.ref C) := .ins e c o.ha o.hn o.htk o.hm
end QO
end

section
set_option Elab.async false
set_option linter.all false
set_option maxRecDepth 100000
/-! Qdata: == and != of lists within lists and tuples, by what they hold. -/
namespace QB
open PySem PySem.Spec PyProof.Rows L2
structure Enc {α : Type} [DecidableEq α] (D : α → PyData) (ok : α → Prop) (n : Nat) : Prop where
  eq : ∀ x y, PyData.eqv (D x) (D y) = decide (x = y)
  lay : ∀ x, ok x → PyData.canLay0 (D x) = true
  dep : ∀ x, PyData.depth (D x) ≤ n
section
variable {α β : Type} [DecidableEq α] [DecidableEq β] {D : α → PyData} {E : β → PyData} {ok : α → Prop} {ok2 : β → Prop} {n m : Nat} {K : PySem.W.Frag} {H : Hp}
theorem Enc.eqAll (e : Enc D ok n) : ∀ l k : List α, PyData.eqvAll (l.map D) (k.map D) = decide (l = k)
  | [], [] => by simp [PyData.eqvAll]
  | [], _ :: _ => by simp [PyData.eqvAll]
  | _ :: _, [] => by simp [PyData.eqvAll]
  | x :: l, y :: k => by
    rw [List.map_cons, List.map_cons, PyData.eqvAll, e.eq, e.eqAll l k]
    by_cases h : x = y
    · subst h
      by_cases h2 : l = k <;> simp [h2]
    · simp [h]
theorem Enc.layAll (e : Enc D ok n) : ∀ l : List α, (∀ x ∈ l, ok x) → PyData.canLayAll0 (l.map D) = true
  | [], _ => by simp [PyData.canLayAll0]
  | x :: l, h => by
    rw [List.map_cons, PyData.canLayAll0, e.lay x (h x List.mem_cons_self), e.layAll l fun y hy => h y (List.mem_cons_of_mem _ hy)]
    rfl
theorem Enc.depAll (e : Enc D ok n) : ∀ l : List α, PyData.depthAll (l.map D) ≤ n
  | [] => by simp [PyData.depthAll]
  | x :: l => by
    rw [List.map_cons, PyData.depthAll]
    exact Nat.max_le.mpr ⟨e.dep x, e.depAll l⟩
theorem Enc.list (e : Enc D ok n) : Enc (fun l : List α => PyData.list (l.map D)) (fun l => ∀ x ∈ l, ok x) (n + 1) :=
  ⟨fun l k => by rw [PyData.eqv]; exact e.eqAll l k, fun l h => by rw [PyData.canLay0]; exact e.layAll l h, fun l => by rw [PyData.depth]; exact Nat.succ_le_succ (e.depAll l)⟩
theorem Enc.mono (e : Enc D ok n) (h : n ≤ m) : Enc D ok m := ⟨e.eq, e.lay, fun x => Nat.le_trans (e.dep x) h⟩
theorem Enc.pair (e : Enc D ok n) (f : Enc E ok2 n) : Enc (fun p : α × β => PyData.tuple [D p.1, E p.2]) (fun p => ok p.1 ∧ ok2 p.2) (n + 1) := by
  refine ⟨fun p q => ?_, fun p h => ?_, fun p => ?_⟩
  · rw [PyData.eqv, PyData.eqvAll, PyData.eqvAll, PyData.eqvAll, e.eq, f.eq, Bool.and_true]
    obtain ⟨p1, p2⟩ := p
    obtain ⟨q1, q2⟩ := q
    by_cases h1 : p1 = q1 <;> by_cases h2 : p2 = q2 <;> simp [h1, h2]
  · rw [PyData.canLay0, PyData.canLayAll0, PyData.canLayAll0, PyData.canLayAll0, e.lay _ h.1, f.lay _ h.2]
    rfl
  · rw [PyData.depth, PyData.depthAll, PyData.depthAll, PyData.depthAll]
    have := e.dep p.1
    have := f.dep p.2
    omega
theorem Enc.two (e : Enc D ok n) (f : Enc E ok2 n) : Enc (fun p : α × β => PyData.list [D p.1, E p.2]) (fun p => ok p.1 ∧ ok2 p.2) (n + 1) := by
  refine ⟨fun p q => ?_, fun p h => ?_, fun p => ?_⟩
  · rw [PyData.eqv, PyData.eqvAll, PyData.eqvAll, PyData.eqvAll, e.eq, f.eq, Bool.and_true]
    obtain ⟨p1, p2⟩ := p
    obtain ⟨q1, q2⟩ := q
    by_cases h1 : p1 = q1 <;> by_cases h2 : p2 = q2 <;> simp [h1, h2]
  · rw [PyData.canLay0, PyData.canLayAll0, PyData.canLayAll0, PyData.canLayAll0, e.lay _ h.1, f.lay _ h.2]
    rfl
  · rw [PyData.depth, PyData.depthAll, PyData.depthAll, PyData.depthAll]
    have := e.dep p.1
    have := f.dep p.2
    omega
theorem enc_str : Enc PyData.str (fun t => PyData.strOk t = true) 0 := ⟨fun x y => by
  rw [PyData.eqv]
  by_cases h : x = y <;> simp [h], fun x h => by rw [PyData.canLay0]; exact h, fun x => by simp [PyData.depth]⟩
theorem enc_int : Enc PyData.int (fun _ => True) 0 := ⟨fun x y => by
  rw [PyData.eqv]
  by_cases h : x = y <;> simp [h], fun x h => by rw [PyData.canLay0], fun x => by simp [PyData.depth]⟩
theorem enc_bool : Enc PyData.bool (fun _ => True) 0 := ⟨fun x y => by
  rw [PyData.eqv]
  by_cases h : x = y <;> simp [h], fun x h => by rw [PyData.canLay0], fun x => by simp [PyData.depth]⟩
def dW : Option Nat → PyData
  | none => .none
  | some n => .int (n : Int)
theorem enc_way : Enc dW (fun _ => True) 0 := by
  refine ⟨fun x y => ?_, fun x _ => ?_, fun x => ?_⟩
  · cases x <;> cases y <;> simp [dW, PyData.eqv]
    rename_i a b
    by_cases h : a = b
    · simp [h]
    · have : ¬ (a : Int) = (b : Int) := by omega
      simp [h, this]
  · cases x <;> simp [dW, PyData.canLay0]
  · cases x <;> simp [dW, PyData.depth]
def dWord (w : Word) : PyData := .list (w.map .str)
def dWays (w : Ways) : PyData := .list (w.map dW)
def dStd (s : Std) : PyData := .tuple [dWord s.1, dWays s.2]
def dForm (F : Form) : PyData := .list (F.map dStd)
def OkWord (w : Word) : Prop := ∀ t ∈ w, PyData.strOk t = true
def OkForm (F : Form) : Prop := ∀ s ∈ F, OkWord s.1
theorem enc_word : Enc dWord OkWord 1 := enc_str.list
theorem enc_ways : Enc dWays (fun w => ∀ x ∈ w, True) 1 := enc_way.list
theorem enc_std : Enc dStd (fun s => OkWord s.1 ∧ ∀ x ∈ s.2, True) 2 := enc_word.pair enc_ways
theorem enc_form : Enc dForm (fun F => ∀ s ∈ F, OkWord s.1 ∧ ∀ x ∈ s.2, True) 3 := enc_std.list
theorem OkForm.enc {F : Form} (h : OkForm F) : ∀ s ∈ F, OkWord s.1 ∧ ∀ x ∈ s.2, True := fun s hs => ⟨h s hs, fun _ _ => trivial⟩
theorem dpAll_map (f : α → V) (g : α → PyData) (h : ∀ x, Dp K H (f x) (g x)) : ∀ l : List α, DpAll K H (l.map f) (l.map g)
  | [] => .nil
  | x :: l => .cons (h x) (dpAll_map f g h l)
theorem dp_wd {a : Addr} {w : Word} (h : WordAt H a w) : Dp K H (.ref a) (dWord w) := .lst (SqL.of h) (dpAll_map _ _ (fun x => .str x) w)
theorem dp_way : ∀ x : Option Nat, Dp K H (vW x) (dW x)
  | none => .non
  | some n => .int (n : Int)
theorem dp_ways {a : Addr} {w : Ways} (h : WaysAt H a w) : Dp K H (.ref a) (dWays w) := .lst (SqL.of h) (dpAll_map _ _ dp_way w)
theorem dp_std {a : Addr} {s : Std} (h : StdAt H a s) : Dp K H (.ref a) (dStd s) := by
  obtain ⟨x, y, h1, h2, h3⟩ := h
  exact .tup (SqT.of h1) (.cons (dp_wd h2) (.cons (dp_ways h3) .nil))
theorem dp_form {a : Addr} {F : Form} (h : FormAt H a F) : Dp K H (.ref a) (dForm F) := by
  obtain ⟨ts, h1, h2⟩ := h
  refine .lst (SqL.of h1) ?_
  clear h1
  induction h2 with
  | nil => exact .nil
  | cons h _ ih => exact .cons (dp_std h) ih
theorem shaped_of (e : Enc D ok n) (hn : n ≤ 64) {x : α} (h : ok x) : SeqAt.shaped (D x) = true := by
  unfold SeqAt.shaped
  rw [Bool.and_eq_true]
  exact ⟨e.lay x h, decide_eq_true (Nat.le_trans (e.dep x) hn)⟩
theorem eq_enc (e : Enc D ok n) (hn : n ≤ 64) {u v : V} {x y : α} {Q : VK} (hx : Dp K H u (D x)) (hy : Dp K H v (D y)) (ox : ok x) (oy : ok y) (q : Q (.bl (decide (x = y))) H) : rEqD K u v H Q :=
  ⟨_, _, hx, hy, shaped_of e hn ox, shaped_of e hn oy, by rw [e.eq]; exact q⟩
theorem ne_enc (e : Enc D ok n) (hn : n ≤ 64) {u v : V} {x y : α} {Q : VK} (hx : Dp K H u (D x)) (hy : Dp K H v (D y)) (ox : ok x) (oy : ok y) (q : Q (.bl (!decide (x = y))) H) : rNeD K u v H Q :=
  ⟨_, _, hx, hy, shaped_of e hn ox, shaped_of e hn oy, by rw [e.eq]; exact q⟩
theorem eq_wd {a b : Addr} {v w : Word} {Q : VK} (hv : WordAt H a v) (hw : WordAt H b w) (ov : OkWord v) (ow : OkWord w) (q : Q (.bl (decide (v = w))) H) : rEqD K (.ref a) (.ref b) H Q := eq_enc enc_word (by decide) (dp_wd hv) (dp_wd hw) ov ow q
theorem ne_wd {a b : Addr} {v w : Word} {Q : VK} (hv : WordAt H a v) (hw : WordAt H b w) (ov : OkWord v) (ow : OkWord w) (q : Q (.bl (!decide (v = w))) H) : rNeD K (.ref a) (.ref b) H Q := ne_enc enc_word (by decide) (dp_wd hv) (dp_wd hw) ov ow q
theorem eq_form {a b : Addr} {F G : Form} {Q : VK} (hv : FormAt H a F) (hw : FormAt H b G) (ov : OkForm F) (ow : OkForm G) (q : Q (.bl (decide (F = G))) H) : rEqD K (.ref a) (.ref b) H Q := eq_enc enc_form (by decide) (dp_form hv) (dp_form hw) ov.enc ow.enc q
theorem ne_form {a b : Addr} {F G : Form} {Q : VK} (hv : FormAt H a F) (hw : FormAt H b G) (ov : OkForm F) (ow : OkForm G) (q : Q (.bl (!decide (F = G))) H) : rNeD K (.ref a) (.ref b) H Q := ne_enc enc_form (by decide) (dp_form hv) (dp_form hw) ov.enc ow.enc q
end
end QB
end

section
set_option Elab.async false
set_option linter.all false
set_option maxRecDepth 100000
set_option maxHeartbeats 2000000
/-! Qexc: a caught exception that outlives its suite. -/
namespace QX
open PySem PySem.Spec PyProof.Rows L2
/-- a caught exception that is kept: its class, its dict -/
def Kept (cls : Value) (d : Option Addr) (a : Addr) : HO := .ext fun h => ∃ (oe : Obj) (vs : Array Value), h.get? a = some oe ∧ Zc cls d oe ∧ oe.data = .fields vs
theorem kept_ok {P : Program} {w : World} {H : Hp} {h : Heap} {a : Addr} {cls : Value} {d : Option Addr} {ob : Obj} {fv : Array Value} (e : h.get? a = some ob) (z : Zc cls d ob) (hd : ob.data = .fields fv) : ObjOk P w H h a (Kept cls d a) :=
  ⟨⟨ob, fv, e, z, hd⟩, ⟨ob, e⟩, fun _ _ ⟨u, v, q, r⟩ k => ⟨u, v, k u q, r⟩⟩
theorem kept_get {P : Program} {w : World} {H : Hp} {h : Heap} {a : Addr} {cls : Value} {d : Option Addr} (hok : HOk P w H h) (e : H a = some (Kept cls d a)) : ∃ (ob : Obj) (fv : Array Value), h.get? a = some ob ∧ Zc cls d ob ∧ ob.data = .fields fv :=
  (show ObjOk P w H h a (.ext _) from hok a _ e).1
/-- what stood before a was made is not a -/
structure Apart (X : Cx) (pins : List (Addr × Obj)) (a : Addr) : Prop where
  s0 : ∀ b ob, X.s_0.heap.get? b = some ob → b ≠ a
  loc : X.env.locals ≠ a
  cell : ∀ y c, X.env.cells.lookup y = some c → c ≠ a
  pin : ∀ q ∈ X.pn ++ pins, q.1 ≠ a
section
variable {X : Cx} {pins : List (Addr × Obj)} {σ : L2.St} {H : Hp} {s : Shared} {a : Addr}
theorem Apart.of (I : Inv X pins σ H s) (hex : X.ex = []) (n : s.heap.get? a = none) : Apart X pins a := by
  have out : ∀ {b : Addr} {ob : Obj}, s.heap.get? b = some ob → b ≠ a := fun e z => by
    rw [z, n] at e
    cases e
  refine ⟨fun b ob e => ?_, ?_, fun y c e => ?_, fun q hq => out (I.pin q hq).1⟩
  · obtain ⟨u, hu⟩ := I.base.there b ob e (by rw [hex]; simp)
    exact out hu
  · obtain ⟨m, ⟨u, es, ep, hu, _⟩, _⟩ := I.loc
    exact out hu
  · obtain ⟨v, u, hu, _⟩ := I.cell y c e
    exact out hu
theorem track {o : HO} (I : Inv X pins σ H s) (ap : Apart X pins a) (na : H a = none) (ok : ObjOk X.prog X.w (upd H a o) s.heap a o) : Inv X pins σ (upd H a o) s := by
  have stays : ∀ {b : Addr} {u : HO}, H b = some u → upd H a o b = some u := fun e => (upd_ne (ne_of_none e na)).trans e
  exact { I with
    base := ⟨I.base.keep, I.base.slot, fun b ob e n hq => (upd_ne (ap.s0 b ob e)).trans (I.base.free b ob e n hq), I.base.there, fun b xs e => stays (I.base.tups b xs e), fun b u xs e => stays (I.base.frzs b u xs e), fun b ps e => by
      obtain ⟨m, q⟩ := I.base.tbls b ps e
      exact ⟨m, stays q⟩⟩
    free := (upd_ne ap.loc).trans I.free
    freeC := fun y c e => (upd_ne (ap.cell y c e)).trans (I.freeC y c e)
    pin := fun q hq => by
      obtain ⟨h1, h2, h3⟩ := I.pin q hq
      exact ⟨h1, (upd_ne (ap.pin q hq)).trans h2, h3⟩
    hok := I.hok.laidN (fun _ _ e => e) na ok }
end
/-- what a clause that keeps its exception wishes: at the suite's end the exception is tracked -/
def wKeep (K : PySem.W.Frag) (c : Value) (i : Nat) (ts : Addr → Value → Option Addr → TS) (Wout : WX) (D : Ends) : WX := fun cls d σ H =>
  ∃ b, PySem.W.exmOne K cls c = some b ∧ (b = false → Wout cls d σ H) ∧
    (b = true → ∀ a, H a = none → ts a cls d { nx := fun σ1 H1 => D.nx (σ1.set i none) (upd H1 a (Kept cls d a)), rt := fun v H1 => D.rt v (upd H1 a (Kept cls d a)), bk := fun σ1 H1 => D.bk (σ1.set i none) (upd H1 a (Kept cls d a)), ct := fun σ1 H1 => D.ct (σ1.set i none) (upd H1 a (Kept cls d a)) } (σ.set i (some (.ref a))) H)
section
variable {X : Cx} {x n : Str} {c : Value} {i : Nat} {body rest : List Stmt} {st₀ : Stmt} {np hpos tpos : Pos} {tb : WX → TS} {ts : Addr → Value → Option Addr → TS} {Wout : WX}
/-- the class that the clause names, looked up while an exception is handled -/
theorem clause_name {pins : List (Addr × Obj)} {σ : L2.St} {H : Hp} {s : Shared} {a : Addr} {pn : List (Addr × Obj)} (hc : Names X x c) (S : Inv (X.suite a pn) [] σ H s) {Q : Value → Shared → Prop} {E : Value → Shared → Prop} (q : Q c s) :
    wpAny (model X.prog X.w) (X.A.mark (some (.ref a))) (eval (.Name x np) X.env) Q E s := by
  rcases hc with ⟨h1, h2, h3 | ⟨h3, h4, h5⟩⟩
  · exact ld_glob (X := X.suite a pn) S h1 h3 q h2
  · exact ld_blt (X := X.suite a pn) S h1 h3 h4 q h5 h2
theorem keep_catch {pins : List (Addr × Obj)} {xe : Value → Shared → Prop} {D : Ends} {u : Value} {s' : Shared} (ok : X.Ok) (hs : X.stack = X.env :: X.outer) (hf : X.env.frame = some X.env.locals) (hex : X.ex = []) (hN : X.N.Nodup) (hi : X.N[i]? = some n) (hln : X.env.kindOf n = some .local) (hc : Names X x c) (tk : Takes X Wout)
    (hsu : ∀ (a : Addr) (oe : Obj) (cls : Value) (d : Option Addr) (pn : List (Addr × Obj)), Zc cls d oe → (∃ vs, oe.data = .fields vs) → PSs (X.suite a ((a, oe) :: pn)) (st₀ :: rest) (ts a cls d))
    (xx : XE (X.tr (X.pn ++ pins) xe) (wKeep X.K c i ts Wout D) u s') :
    wpAny (model X.prog X.w) X.A (noteFrame u X.env) (fun _ s₂ => wpAny (model X.prog X.w) X.A (setFlight u none) (fun _ s₃ => wpAny (model X.prog X.w) X.A (handleBy u X.env [.ExceptHandler (some (.Name x np)) (some n) (st₀ :: rest) hpos]) (SP X pins D) X.xe s₃) X.xe s₂) X.xe s' := by
  have hfr : X.A.frames = some (X.env :: X.outer) := by rw [ok.frames, hs]
  obtain ⟨a, B, sI, pins', σ', H', cls, d, rfl, J', nb, up, sky, na, os, ag, b, hb, hno, hyes⟩ := xx
  replace J' : Inv X pins σ' H' sI := J'.ofTry ok
  have apart : sI.heap.get? a = none → Apart X pins a := Apart.of J' hex
  replace sky : Sky B (X.env :: X.outer) a (Zc cls d) X.env.locals s'.heap := hs ▸ sky
  refine Sky.land Zc.steady hfr hf sky fun g1 fl1 up1 => ?_
  have I1 : Inv X pins σ' H' { s' with heap := g1 } := J'.landed nb fl1.1 (up.trans up1) os ag
  obtain ⟨o1, v1, k1, z1, d1⟩ := fl1.there
  have noFrame : a ∉ frs (X.env :: X.outer) := fun hm => by
    obtain ⟨_, o2, k2, hnf⟩ := fl1.2.2.1.mem hm
    rw [k1] at k2
    cases k2
    exact hnf _ d1
  have isIn : ∀ e ∈ X.env :: X.outer, e.frame ≠ some a := fun e he q => noFrame (List.mem_filterMap.mpr ⟨e, he, q⟩)
  have nL : a ≠ X.env.locals := fun z => isIn X.env List.mem_cons_self (z ▸ hf)
  have nF : a ∉ X.fs := fun hm => by
    obtain ⟨e, he, q⟩ := List.mem_filterMap.mp hm
    exact isIn e (List.mem_cons_of_mem _ he) q
  have ap : Apart X pins a := apart (by
    cases q : sI.heap.get? a with
    | none => rfl
    | some o2 =>
      have z := nb a o2 q (by rw [hs]; exact noFrame)
      rw [fl1.2.1] at z
      cases z)
  have S1 := I1.suite k1 d1 na nL nF
  refine wpAny_handleBy_cons (codeAny_handlers_test (clause_name (pins := pins) hc S1 ?_)) (fun q => by cases q)
  have ty : PySem.W.Looks (model X.prog X.w) g1 (typeOf (.ref a)) cls := fun A Q E t k q => wpAny_typeOf_ref (k _ _ k1) (z1.1.symm ▸ q)
  refine (PySem.W.exm_one (M := model X.prog X.w) I1.kIn ty hb).here ?_
  cases b with
  | true =>
    refine codeAny_handlers_suite_as (HandSPX.lands_againZ fl1 fun g2 fl2 up2 => ?_)
    have I2 : Inv X pins σ' H' { s' with heap := g2 } := J'.landed nb fl2.1 ((up.trans up1).trans up2) os ag
    obtain ⟨o2, v2, k2, z2, d2⟩ := fl2.there
    refine store_ok (X := X.suite a ((a, o2) :: (X.pn ++ pins))) (v := .ref a) (I2.suite k2 d2 na nL nF) hN hi (.inl hln) rfl (fun s5 S5 => ?_) (.inr hln)
    refine wpAny_mono ((hsu a o2 cls d (X.pn ++ pins) z2 ⟨_, d2⟩).run [] s5 _ H' _ S5 (hyes rfl a na)) (fun fl s6 hsp => ?_) (fun _ _ z => z.elim)
    have fin : ∀ {τ : L2.St} {G : Hp} {Q : Shared → Prop}, Inv (X.suite a ((a, o2) :: (X.pn ++ pins))) [] τ G s6 → (∀ s7, Inv X pins (τ.set i none) (upd G a (Kept cls d a)) s7 → Q s7) →
        wpAny (model X.prog X.w) X.A (do bindName X.env n .none; unbindBehindTheSuite X.env n hpos) (fun _ s7 => Q s7) X.xe s6 := fun S6 hq => by
      obtain ⟨h1, h2, _⟩ := S6.pin (a, o2) (List.mem_append_left _ List.mem_cons_self)
      exact gone_ok (track (S6.unsuite ok) ap h2 (kept_ok h1 z2 d2)) hN hi hln hq
    cases fl with
    | next =>
      obtain ⟨τ, G, S6, q6⟩ := hsp
      exact fin S6 fun s7 J7 => ⟨_, _, J7, q6⟩
    | brk =>
      obtain ⟨τ, G, S6, q6⟩ := hsp
      exact fin S6 fun s7 J7 => ⟨_, _, J7, q6⟩
    | cont =>
      obtain ⟨τ, G, S6, q6⟩ := hsp
      exact fin S6 fun s7 J7 => ⟨_, _, J7, q6⟩
    | ret r =>
      obtain ⟨v6, τ, G, S6, r6, q6⟩ := hsp
      exact fin S6 fun s7 J7 => ⟨_, _, _, J7, r6, q6⟩
  | false =>
    refine wpAny_handleBy_nil ?_
    obtain ⟨_, _, _, o3, v3, T, oT, ts', k3, z3, d3, h3, r3⟩ := id fl1
    unfold PySem.passOn
    refine wpAny_bind (wpAny_field k3 d3 h3 ?_)
    rw [if_neg (fun q : (Value.ref T == Value.none) = true => by simp at q)]
    have out : wpAny (model X.prog X.w) X.A (setFlight (.ref a) X.env.frame) (fun _ s4 => wpAny (model X.prog X.w) X.A (throw (.ref a) : Sem Flow) (SP X pins D) X.xe s4) X.xe { s' with heap := g1 } := by
      rw [hf]
      refine HandSPX.setFlight_upZ fl1 fun g2 held up2 => wpAny_throw (tk _ _ ⟨a, B, sI, pins, σ', H', cls, d, rfl, J', nb, (up.trans up1).trans up2, .inr (.inr ?_), na, os, ag, hno rfl⟩)
      rw [hs]
      exact held
    first
      | exact wpAny_bind (wpAny_pure (wpAny_bind out))
      | exact wpAny_bind out
/-- try: body / except x as n: suite, the exception kept -/
theorem ps_try_keep (hs : X.stack = X.env :: X.outer) (hf : X.env.frame = some X.env.locals) (hex : X.ex = []) (hN : X.N.Nodup) (hi : X.N[i]? = some n) (hln : X.env.kindOf n = some .local) (hc : Names X x c) (tk : Takes X Wout)
    (hb : ∀ (W : WX) (pn : List (Addr × Obj)) (xe : Value → Shared → Prop), Takes (X.tr pn xe) W → PassesOwn (model X.prog X.w) X.A X.env xe → PSs (X.tr pn xe) body (tb W))
    (hsu : ∀ (a : Addr) (oe : Obj) (cls : Value) (d : Option Addr) (pn : List (Addr × Obj)), Zc cls d oe → (∃ vs, oe.data = .fields vs) → PSs (X.suite a ((a, oe) :: pn)) (st₀ :: rest) (ts a cls d)) :
    PS X (.Try body [.ExceptHandler (some (.Name x np)) (some n) (st₀ :: rest) hpos] [] [] tpos) (fun D σ H => tb (wKeep X.K c i ts Wout D) D σ H) := by
  refine ⟨fun pins s σ H D I h => ?_⟩
  refine wpAny_Try_except (wpAny_mono ((hb (wKeep X.K c i ts Wout D) (X.pn ++ pins) _ (fun u s' xx => ?_) PassesOwn.looking).run [] s σ H D (I.toTry _) h) (fun fl s1 hsp => ?_) fun _ _ he => he)
  · exact keep_catch I.ok hs hf hex hN hi hln hc tk hsu xx
  · cases fl with
    | next =>
      obtain ⟨τ, G, J, q⟩ := hsp
      exact wpAny_execs_nil ⟨τ, G, J.ofTry I.ok, q⟩
    | brk =>
      obtain ⟨τ, G, J, q⟩ := hsp
      exact ⟨τ, G, J.ofTry I.ok, q⟩
    | cont =>
      obtain ⟨τ, G, J, q⟩ := hsp
      exact ⟨τ, G, J.ofTry I.ok, q⟩
    | ret r =>
      obtain ⟨v, τ, G, J, r1, q⟩ := hsp
      exact ⟨v, τ, G, J.ofTry I.ok, r1, q⟩
end
end QX
end

section
set_option Elab.async false
set_option linter.all false
set_option maxRecDepth 100000
set_option maxHeartbeats 2000000
/-! Qexc2: isinstance of a kept exception, its fields. -/
namespace QX
open PySem PySem.Spec PyProof.Rows L2
/-- its dict, if it has one, is tracked -/
def DictAt (H : Hp) (d : Option Addr) : Prop := d = none ∨ ∃ (dd : Addr) (fs : List (Str × V)), d = some dd ∧ H dd = some (.xd fs)
section
variable {X : Cx} {pins : List (Addr × Obj)} {σ : L2.St} {H : Hp} {s : Shared} {a D : Addr} {d : Option Addr}
theorem kept_inst (I : Inv X pins σ H s) (ha : H a = some (Kept (.ref D) d a)) (hd : DictAt H d) : ∃ (ob : Obj) (od : Option Obj), PySem.W.InstAt s.heap a ob D od := by
  obtain ⟨⟨oc, od, oda, osl⟩, fv, e, ⟨z1, z2⟩, z3⟩ := kept_get I.hok ha
  dsimp only at z1 z2 z3
  subst z1 z2 z3
  rcases hd with rfl | ⟨dd, fs, rfl, hx⟩
  · exact ⟨_, none, e, rfl, rfl, trivial⟩
  · obtain ⟨m, ⟨u, es, ep, hu, _⟩, _⟩ := (show ObjOk X.prog X.w H s.heap dd (.xd fs) from I.hok dd _ hx)
    exact ⟨_, some u, e, rfl, rfl, hu⟩
theorem kept_kit (I : Inv X pins σ H s) (C : ExcC X.K D) (ha : H a = some (Kept (.ref D) d a)) (hd : DictAt H d) : ∃ P : Heap → Prop, PySem.W.KitX X.K (.ref a) (.ref D) P ∧ P s.heap := by
  obtain ⟨ob, od, J⟩ := kept_inst I ha hd
  have hcl : (PySem.W.clsIn X.K D).isSome = true := by
    have h := C.hd
    unfold PySem.W.hasDictIn at h
    cases e : PySem.W.clsIn X.K D with
    | none =>
      rw [e] at h
      cases h
    | some _ => rfl
  exact ⟨_, PySem.W.kitx_exc (od := od) hcl C.hg C.hk C.hs C.ha C.hn C.ht C.hm, J⟩
end
/-- isinstance(e, c), e kept -/
def rIsX (K : PySem.W.Frag) : List V → Hp → VK → Prop := fun xs H Q => ∃ (a D : Addr) (d : Option Addr) (c : V) (u : Value) (b : Bool), xs = [.ref a, c] ∧ H a = some (Kept (.ref D) d a) ∧ DictAt H d ∧ ExcC K D ∧ ClsV c u ∧ PySem.W.kitOne K (.ref D) u = some b ∧ Q (.bl b) H
/-- isinstance(e, (c1, c2, ..)), e kept -/
def rIsXT (K : PySem.W.Frag) : List V → Hp → VK → Prop := fun xs H Q => ∃ (a D tp : Addr) (d : Option Addr) (cs : List V) (us : List Value) (b : Bool), xs = [.ref a, .ref tp] ∧ H a = some (Kept (.ref D) d a) ∧ DictAt H d ∧ ExcC K D ∧ H tp = some (.tup cs) ∧ Paired ClsV cs us ∧ PySem.W.kitAny K (.ref D) us = some b ∧ Q (.bl b) H
section
variable {X : Cx}
theorem call_isX : CallR X (.builtin "isinstance") (rIsX X.K) := by
  intro pins s σ H xs us Q I r ⟨a, D, d, c, u, b, ex, ha, hd, C, hc, e, q⟩
  subst ex
  obtain ⟨w1, w2, rfl, r1, r2⟩ := vals2 r
  cases hc.eq r2
  cases (show w1 = Value.ref a from r1)
  obtain ⟨P, Z, p⟩ := kept_kit I C ha hd
  exact PySem.W.kia_one Z I.kIn p e (fun z => nomatch z) fun tk => ⟨.bl b, H, I.tok tk, rfl, q⟩
theorem call_isXT : CallR X (.builtin "isinstance") (rIsXT X.K) := by
  intro pins s σ H xs us Q I r ⟨a, D, tp, d, cs, ws, b, ex, ha, hd, C, hT, hc, e, q⟩
  subst ex
  obtain ⟨w1, w2, rfl, r1, r2⟩ := vals2 r
  cases (show w1 = Value.ref a from r1)
  cases (show w2 = Value.ref tp from r2)
  obtain ⟨P, Z, p⟩ := kept_kit I C ha hd
  obtain ⟨_, its, rv, ⟨oc, od, dt, sl⟩, h1, h2, n, h3⟩ := (show ObjOk X.prog X.w H s.heap tp (.tup cs) from I.hok tp _ hT)
  cases ClsV.all hc rv
  dsimp only at h2 h3
  subst h2 h3
  exact PySem.W.kia_tup Z I.kIn p h1 e (fun z => nomatch z) fun tk => ⟨.bl b, H, I.tok tk, rfl, q⟩
theorem call_isXK (K : PySem.W.Frag) (h : X.K = K := by rfl) : CallR X (.builtin "isinstance") (rIsX K) := h ▸ call_isX
theorem call_isXTK (K : PySem.W.Frag) (h : X.K = K := by rfl) : CallR X (.builtin "isinstance") (rIsXT K) := h ▸ call_isXT
/-- e.f, e kept -/
def tFx (K : PySem.W.Frag) (f : Str) (te : TE) : TE := fun σ H Q => te σ H fun x H1 => ∃ (a C dd : Addr) (fs : List (Str × V)) (v : V), x = .ref a ∧ H1 a = some (Kept (.ref C) (some dd) a) ∧ XfC K C ∧ PySem.W.findIn K (.ref C) f = some none ∧ H1 dd = some (.xd fs) ∧ fs.lookup f = some v ∧ Q v H1
theorem pe_fx {e : Expr} {te : TE} {f : Str} {pos : Pos} (he : PE X e te) (hb : attributeBase e f X.env (eval e X.env) = eval e X.env) : PE X (.Attribute e f pos) (tFx X.K f te) := by
  refine ⟨fun pins s σ H Q I h => attr_of hb (thn (he.run pins s σ H _ I h) fun u s1 ⟨x, H1, I1, rx, a, C, dd, fs, v, ex, ha, T, hno, hx, hl, q⟩ => ?_)⟩
  subst ex
  cases (show u = Value.ref a from rx)
  obtain ⟨⟨oc, od, oda, osl⟩, fv, k1, ⟨z1, z2⟩, z3⟩ := kept_get I1.hok ha
  dsimp only at z1 z2 z3
  subst z1 z2 z3
  obtain ⟨m, hns, hr⟩ := (show ObjOk X.prog X.w H1 s1.heap dd (.xd fs) from I1.hok dd _ hx)
  obtain ⟨ot, ho, hlk⟩ := lookIn_ns hns
  obtain ⟨u, hu, ru⟩ := RelO.some_of (v := v) (o := m f) (by rw [← hl]; exact hr f)
  exact HandSPX.exc_get I1.kIn (od := some ot) ⟨k1, rfl, rfl, ho⟩ T.ga T.gg T.exC (PySem.W.findObj_own T.hdC hno rfl (by rw [hlk, hu])) (handed_of ru) ⟨v, H1, I1.tok _, ru, q⟩
theorem pe_fxK (K : PySem.W.Frag) {e : Expr} {te : TE} {f : Str} {pos : Pos} (he : PE X e te) (hb : attributeBase e f X.env (eval e X.env) = eval e X.env) (h : X.K = K := by rfl) : PE X (.Attribute e f pos) (tFx K f te) := h ▸ pe_fx he hb
end
end QX
end

section
set_option Elab.async false
set_option linter.all false
set_option maxRecDepth 100000
/-! Qend: from the Hook's facts to the text's. -/
namespace QE
open PySem PySem.Spec PyProof.Rows L2 He
def ownB (K : PySem.W.Frag) (C : Addr) : Bool :=
  (eqO (PySem.W.findIn K (.ref C) "__class__") (some (some (.builtin "object.__class__"))) && (eqO (PySem.W.specialIn K (.builtin "object.__class__") "__get__") (some (some (.builtin "getset_descriptor.__get__"))) &&
  (decide (PySem.W.takesIn K (.builtin "object.__class__") = some true) && decide (PySem.W.mroIn K C (.type "object") = some true)))) &&
  ((["list", "tuple", "str", "int", "bool", "NoneType", "dict"].all fun T => decide (PySem.W.kitOne K (.type T) (.ref C) = some false) && PySem.W.notFirst K C (.type T)) &&
  (["list", "tuple", "str", "int", "bool"].all fun T => decide (PySem.W.kitOne K (.ref C) (.type T) = some false)))
theorem ownB_ok {K : PySem.W.Frag} {C : Addr} (h : ownB K C = true) : QO.OwnC K C := by
  obtain ⟨h1, h2⟩ := ba h
  obtain ⟨a1, h1⟩ := ba h1
  obtain ⟨a2, h1⟩ := ba h1
  obtain ⟨a3, a4⟩ := ba h1
  obtain ⟨h3, h4⟩ := ba h2
  have k1 := fun T (m : T ∈ ["list", "tuple", "str", "int", "bool", "NoneType", "dict"]) => ba (List.all_eq_true.mp h3 T m)
  have k2 := fun T (m : T ∈ ["list", "tuple", "str", "int", "bool"]) => of_decide_eq_true (List.all_eq_true.mp h4 T m)
  have k3 := fun T (m : T ∈ ["list", "tuple", "str", "int", "bool", "NoneType", "dict"]) => of_decide_eq_true (k1 T m).1
  have k4 := fun T (m : T ∈ ["list", "tuple", "str", "int", "bool", "NoneType", "dict"]) => (k1 T m).2
  exact ⟨eqO_ok a1, eqO_ok a2, of_decide_eq_true a3, of_decide_eq_true a4, k3 _ (by simp), k3 _ (by simp), k3 _ (by simp), k3 _ (by simp), k3 _ (by simp), k3 _ (by simp), k3 _ (by simp),
    k2 _ (by simp), k2 _ (by simp), k2 _ (by simp), k2 _ (by simp), k2 _ (by simp), k4 _ (by simp), k4 _ (by simp), k4 _ (by simp), k4 _ (by simp), k4 _ (by simp), k4 _ (by simp), k4 _ (by simp)⟩
theorem funD_fun {K : PySem.W.Frag} {x q : Str} {st : Stmt} {f : Addr} {fd : FuncData} (F : FunD K x q (defArgs st) (defBody st) (defScope st) [] [] f fd) : L2.Fun K x q st f fd := by
  obtain ⟨oc, od, dV, kV, doc, pm, an, cdv, ct, osl, h1, h2, h3, h4, h5⟩ := F.ex
  have e : dV = .none := by
    rcases h4 with ⟨_, h4⟩ | ⟨h4, _⟩
    · exact h4
    · exact absurd rfl h4
  subst e
  exact ⟨⟨oc, od, kV, doc, pm, an, cdv, ct, osl, h1, h2, h3⟩, F.kp⟩
theorem funC_of {K : PySem.W.Frag} {x q : Str} {st : Stmt} {p : Str × Option Str} {fd : FuncData} (F : FunD K x q (defArgs st) (defBody st) (defScope st) [] [] (fAd K p) fd) : QB.FunC K x q st (fAd K p) fd (codeOf K p) := by
  obtain ⟨oc, od, kV, doc, pm, an, cdv, ct, osl, h1, h2, h3⟩ := (funD_fun F).ex
  obtain ⟨c, rfl⟩ := codeIn_ref h3
  have e : codeOf K p = c := codeOf_eq h2 (by rw [h1])
  rw [e]
  exact ⟨⟨oc, od, kV, doc, pm, an, ct, osl, h1, h2, h3⟩⟩
end QE
end

section
set_option Elab.async false
set_option linter.all false
set_option maxRecDepth 100000
set_option maxHeartbeats 2000000
/-! Qcls: the text's own exception classes, from the top's facts. -/
namespace QX
open PySem PySem.Spec PyProof.Rows L2 He
/-- an own exception class whose __init__ (at fI) writes the field f -/
structure ExcT (K : PySem.W.Frag) (C fI : Addr) (f : Str) : Prop where
  oex : OexC K C
  exc : ExcC K C
  xf : XfC K C
  noF : PySem.W.findIn K (.ref C) f = some none
  iC : PySem.W.findIn K (.ref C) "__init__" = some (some (.ref fI))
  tI : PySem.W.typeIn K (.ref fI) = some (.type "function")
/-- the class object is one of an exception class over ValueError -/
def clsB (K : PySem.W.Frag) (C : Addr) : Bool := match K.lookup C with
  | none => false
  | some ob => decide (ob.cls = .type "type") && (match ob.data with
    | .cls r => r.hasDict && (!r.hasDel && ((match r.mro with
      | m :: over => decide (m = .ref C) && PySem.HandSPX.refsVE over
      | [] => false) && (match ob.slots.toList with
      | [_, _, _, _, m, _] => decide (m = some (.builtin "ValueError.__new__"))
      | _ => false)))
    | _ => false)
theorem clsB_ok {K : PySem.W.Frag} {C : Addr} (h : clsB K C = true) : ∃ nm q N bs bm sn sub ab col dd k0 k1 k2 k3 k5, K.lookup C = some (excClassObj nm q C N bs bm true sn sub ab col dd k0 k1 k2 k3 k5 "ValueError.__new__") ∧ PySem.HandSPX.refsVE bm = true := by
  unfold clsB at h
  cases e : K.lookup C with
  | none =>
    rw [e] at h
    cases h
  | some ob =>
    rw [e] at h
    obtain ⟨oc, od, dt, sl⟩ := ob
    obtain ⟨h1, h2⟩ := ba h
    have h1 : oc = .type "type" := of_decide_eq_true h1
    subst h1
    cases dt with
    | cls r =>
      obtain ⟨nm, bs, mro, ns, qn, hd, sn, sub, ab, col, del⟩ := r
      obtain ⟨h3, h2⟩ := ba h2
      obtain ⟨h4, h2⟩ := ba h2
      obtain ⟨h5, h6⟩ := ba h2
      have h3 : hd = true := h3
      have h9 : del = false := by
        have h4 : (!del) = true := h4
        cases del with
        | false => rfl
        | true => cases h4
      clear h4
      subst h3 h9
      cases mro with
      | nil => cases h5
      | cons m over =>
        obtain ⟨h5, h7⟩ := ba h5
        have h5 : m = .ref C := of_decide_eq_true h5
        subst h5
        obtain ⟨l⟩ := sl
        match l, h6 with
        | [k0, k1, k2, k3, m4, k5], h6 =>
          have h6 : m4 = some (.builtin "ValueError.__new__") := of_decide_eq_true h6
          subst h6
          exact ⟨nm, qn, ns, bs, over, sn, sub, ab, col, od, k0, k1, k2, k3, k5, rfl, h7⟩
    | _ => cases h2
def excB (K : PySem.W.Frag) (C : Addr) : Bool :=
  eqO (PySem.W.findIn K (.ref C) "__getattribute__") (some (some (.builtin "BaseException.__getattribute__"))) && (eqO (PySem.W.findIn K (.ref C) "__getattr__") (some none) && (decide (PySem.W.subIn K (.ref C) (.type "BaseException") = some true) && (PySem.W.hasDictIn K C &&
  (eqO (PySem.W.findIn K (.ref C) "__class__") (some (some (.builtin "object.__class__"))) && (eqO (PySem.W.specialIn K (.builtin "object.__class__") "__get__") (some (some (.builtin "getset_descriptor.__get__"))) &&
  (decide (PySem.W.takesIn K (.builtin "object.__class__") = some true) && decide (PySem.W.mroIn K C (.type "object") = some true)))))))
theorem excB_ok {K : PySem.W.Frag} {C : Addr} (h : excB K C = true) : ExcC K C ∧ XfC K C := by
  obtain ⟨h1, h⟩ := ba h
  obtain ⟨h2, h⟩ := ba h
  obtain ⟨h3, h⟩ := ba h
  obtain ⟨h4, h⟩ := ba h
  obtain ⟨h5, h⟩ := ba h
  obtain ⟨h6, h⟩ := ba h
  obtain ⟨h7, h8⟩ := ba h
  exact ⟨⟨eqO_ok h1, eqO_ok h2, of_decide_eq_true h3, h4, eqO_ok h5, eqO_ok h6, of_decide_eq_true h7, of_decide_eq_true h8⟩, ⟨eqO_ok h1, eqO_ok h2, of_decide_eq_true h3, h4⟩⟩
def excTB (K : PySem.W.Frag) (C fI : Addr) (f : Str) : Bool :=
  clsB K C && (excB K C && (eqO (PySem.W.findIn K (.ref C) "__setattr__") (some (some (.builtin "object.__setattr__"))) && (decide (PySem.W.typeIn K (.ref C) = some (.type "type")) && (PySem.W.keepIn K (.ref C) &&
  (eqO (PySem.W.findIn K (.ref C) f) (some none) && (eqO (PySem.W.findIn K (.ref C) "__init__") (some (some (.ref fI))) && decide (PySem.W.typeIn K (.ref fI) = some (.type "function"))))))))
theorem excTB_ok {K : PySem.W.Frag} {C fI : Addr} {f : Str} (h : excTB K C fI f = true) : ExcT K C fI f := by
  obtain ⟨h1, h⟩ := ba h
  obtain ⟨h2, h⟩ := ba h
  obtain ⟨h3, h⟩ := ba h
  obtain ⟨h4, h⟩ := ba h
  obtain ⟨h5, h⟩ := ba h
  obtain ⟨h6, h⟩ := ba h
  obtain ⟨h7, h8⟩ := ba h
  obtain ⟨e1, e2⟩ := excB_ok h2
  exact ⟨⟨clsB_ok h1, eqO_ok h3, e1.hs, of_decide_eq_true h4, h5⟩, e1, e2, eqO_ok h6, eqO_ok h7, of_decide_eq_true h8⟩
/-- an own exception class without __init__ -/
structure ExcU (K : PySem.W.Frag) (C : Addr) : Prop where
  exc : ExcC K C
  tyC : PySem.W.typeIn K (.ref C) = some (.type "type")
  kC : PySem.W.keepIn K (.ref C) = true
def isB (K : PySem.W.Frag) (D C : Addr) (b : Bool) : Bool := decide (PySem.W.kitOne K (.ref D) (.ref C) = some b)
def isTB (K : PySem.W.Frag) (D : Addr) (T : String) (b : Bool) : Bool := decide (PySem.W.kitOne K (.ref D) (.type T) = some b)
def exmB (K : PySem.W.Frag) (D C : Addr) : Bool := decide (PySem.W.exmOne K (.ref D) (.ref C) = some true)
/-! what __init__ of such a class keeps -/
def spExI (K : PySem.W.Frag) (C : Addr) (f : Str) : Sp := fun vs H Q _ => ∃ (a : Addr) (y : V), vs = [.ref a, y] ∧ H a = some (exo a C none) ∧ ∀ dx, H dx = none → dx ≠ a → Q .non (upd (upd H dx (exd dx [(f, y)])) a (exo a C (some dx)))
/-- raise C(e): the reading behind e -/
theorem mkO_of {K : PySem.W.Frag} {C : Addr} {f : Str} {H1 : Hp} {v : V} {Q : XK} (k : ∀ d, H1 d = none → Q (.ref C) (some d) (upd H1 d (.xd [(f, v)]))) :
    ([v] : List V).length ≤ 1000 ∧ ∀ a, H1 a = none → spExI K C f (.ref a :: ([v] ++ [])) (upd H1 a (exo a C none))
      (fun v H2 => v = .non ∧ ∃ (d : Addr) (fs : List (Str × V)), H2 a = some (exo a C (some d)) ∧ H2 d = some (exd d fs) ∧ H1 d = none ∧ Q (.ref C) (some d) (upd (del H2 a) d (.xd fs))) (fun _ _ _ => False) := by
  refine ⟨by show 1 ≤ 1000; decide, fun a ha => ⟨a, v, rfl, upd_same, fun dx hd hne => ⟨rfl, dx, _, upd_same, Eq.trans (upd_ne hne) upd_same, ?_, ?_⟩⟩⟩
  · rw [← hd, upd_ne hne]
  · have hn : H1 dx = none := by rw [← hd, upd_ne hne]
    have e : upd (del (upd (upd (upd H1 a (exo a C none)) dx (exd dx [(f, v)])) a (exo a C (some dx))) a) dx (.xd [(f, v)]) = upd H1 dx (.xd [(f, v)]) := by
      funext b
      by_cases h1 : b = dx
      · subst h1
        rw [upd_same, upd_same]
      · rw [upd_ne h1, upd_ne h1]
        by_cases h2 : b = a
        · subst h2
          rw [del_same, ha]
        · rw [del_ne h2, upd_ne h2, upd_ne h1, upd_ne h2]
    rw [e]
    exact k dx hn
end QX
end

section
set_option Elab.async false
set_option linter.all false
set_option maxRecDepth 100000
set_option maxHeartbeats 2000000
/-! Qval: any plain values as data (an empty dict among them), read off the tracked heap; repr of them; a class made in a suite that may raise. -/
namespace QV
open PySem PySem.Spec PyProof.Rows L2 QB
mutual
/-- a value that is this data, each part of it tracked -/
inductive Dv (H : Hp) : V → PyData → Prop
  | non : Dv H .non .none
  | bl (b : Bool) : Dv H (.bl b) (.bool b)
  | int (i : Int) : Dv H (.int i) (.int i)
  | str (x : Str) : Dv H (.str x) (.str x)
  | lst {a : Addr} {xs : List V} {ds : List PyData} : H a = some (.lst xs) → DvAll H xs ds → Dv H (.ref a) (.list ds)
  | tup {a : Addr} {xs : List V} {ds : List PyData} : H a = some (.tup xs) → DvAll H xs ds → Dv H (.ref a) (.tuple ds)
  | dct {a : Addr} : H a = some (.dK []) → Dv H (.ref a) (.dict [])
inductive DvAll (H : Hp) : List V → List PyData → Prop
  | nil : DvAll H [] []
  | cons {v : V} {vs : List V} {d : PyData} {ds : List PyData} : Dv H v d → DvAll H vs ds → DvAll H (v :: vs) (d :: ds)
end
def tyD : PyData → Value
  | .none => .type "NoneType"
  | .bool _ => .type "bool"
  | .int _ => .type "int"
  | .str _ => .type "str"
  | .list _ => .type "list"
  | .tuple _ => .type "tuple"
  | .dict _ => .type "dict"
def isSD : PyData → Bool
  | .str _ => true
  | _ => false
def isLD : PyData → Bool
  | .list _ => true
  | _ => false
def isTD : PyData → Bool
  | .tuple _ => true
  | _ => false
def isID : PyData → Bool
  | .int _ => true
  | .bool _ => true
  | _ => false
def isBD : PyData → Bool
  | .bool _ => true
  | _ => false
theorem Dv.ty (K : PySem.W.Frag) {H : Hp} {v : V} {d : PyData} (h : Dv H v d) : TyX K H v (tyD d) := by
  cases h with
  | non => exact .base .non
  | bl b => exact .base (.bl b)
  | int i => exact .base (.int i)
  | str x => exact .base (.str x)
  | lst h _ => exact .base (.lst h)
  | tup h _ => exact .base (.tup h)
  | dct h => exact .base (.dK h)
section
variable {K : PySem.W.Frag}
theorem kit_s : ∀ d : PyData, PySem.W.kitOne K (tyD d) (.type "str") = some (isSD d)
  | .none => kit_ty (show kitB "NoneType" "str" = some false by decide +kernel)
  | .bool _ => kit_ty (show kitB "bool" "str" = some false by decide +kernel)
  | .int _ => kit_ty (show kitB "int" "str" = some false by decide +kernel)
  | .str _ => kit_ty (show kitB "str" "str" = some true by decide +kernel)
  | .list _ => kit_ty (show kitB "list" "str" = some false by decide +kernel)
  | .tuple _ => kit_ty (show kitB "tuple" "str" = some false by decide +kernel)
  | .dict _ => kit_ty (show kitB "dict" "str" = some false by decide +kernel)
theorem kit_l : ∀ d : PyData, PySem.W.kitOne K (tyD d) (.type "list") = some (isLD d)
  | .none => kit_ty (show kitB "NoneType" "list" = some false by decide +kernel)
  | .bool _ => kit_ty (show kitB "bool" "list" = some false by decide +kernel)
  | .int _ => kit_ty (show kitB "int" "list" = some false by decide +kernel)
  | .str _ => kit_ty (show kitB "str" "list" = some false by decide +kernel)
  | .list _ => kit_ty (show kitB "list" "list" = some true by decide +kernel)
  | .tuple _ => kit_ty (show kitB "tuple" "list" = some false by decide +kernel)
  | .dict _ => kit_ty (show kitB "dict" "list" = some false by decide +kernel)
theorem kit_t : ∀ d : PyData, PySem.W.kitOne K (tyD d) (.type "tuple") = some (isTD d)
  | .none => kit_ty (show kitB "NoneType" "tuple" = some false by decide +kernel)
  | .bool _ => kit_ty (show kitB "bool" "tuple" = some false by decide +kernel)
  | .int _ => kit_ty (show kitB "int" "tuple" = some false by decide +kernel)
  | .str _ => kit_ty (show kitB "str" "tuple" = some false by decide +kernel)
  | .list _ => kit_ty (show kitB "list" "tuple" = some false by decide +kernel)
  | .tuple _ => kit_ty (show kitB "tuple" "tuple" = some true by decide +kernel)
  | .dict _ => kit_ty (show kitB "dict" "tuple" = some false by decide +kernel)
theorem kit_i : ∀ d : PyData, PySem.W.kitOne K (tyD d) (.type "int") = some (isID d)
  | .none => kit_ty (show kitB "NoneType" "int" = some false by decide +kernel)
  | .bool _ => kit_ty (show kitB "bool" "int" = some true by decide +kernel)
  | .int _ => kit_ty (show kitB "int" "int" = some true by decide +kernel)
  | .str _ => kit_ty (show kitB "str" "int" = some false by decide +kernel)
  | .list _ => kit_ty (show kitB "list" "int" = some false by decide +kernel)
  | .tuple _ => kit_ty (show kitB "tuple" "int" = some false by decide +kernel)
  | .dict _ => kit_ty (show kitB "dict" "int" = some false by decide +kernel)
theorem kit_b : ∀ d : PyData, PySem.W.kitOne K (tyD d) (.type "bool") = some (isBD d)
  | .none => kit_ty (show kitB "NoneType" "bool" = some false by decide +kernel)
  | .bool _ => kit_ty (show kitB "bool" "bool" = some true by decide +kernel)
  | .int _ => kit_ty (show kitB "int" "bool" = some false by decide +kernel)
  | .str _ => kit_ty (show kitB "str" "bool" = some false by decide +kernel)
  | .list _ => kit_ty (show kitB "list" "bool" = some false by decide +kernel)
  | .tuple _ => kit_ty (show kitB "tuple" "bool" = some false by decide +kernel)
  | .dict _ => kit_ty (show kitB "dict" "bool" = some false by decide +kernel)
end
section
variable {T : List (Addr × Str)} {H H' : Hp}
mutual
/-- what isn't a table stays -/
theorem Dv.keep (k : ∀ p o, H p = some o → (∀ ps, o ≠ .tbl ps) → H' p = some o) : ∀ (d : PyData) (v : V), Dv H v d → Dv H' v d
  | .none, _, h => by
    cases h
    exact .non
  | .bool b, _, h => by
    cases h
    exact .bl b
  | .int i, _, h => by
    cases h
    exact .int i
  | .str x, _, h => by
    cases h
    exact .str x
  | .list ds, _, h => by
    cases h with
    | lst h1 h2 => exact .lst (k _ _ h1 fun _ z => nomatch z) (DvAll.keep k ds _ h2)
  | .tuple ds, _, h => by
    cases h with
    | tup h1 h2 => exact .tup (k _ _ h1 fun _ z => nomatch z) (DvAll.keep k ds _ h2)
  | .dict _, _, h => by
    cases h with
    | dct h1 => exact .dct (k _ _ h1 fun _ z => nomatch z)
theorem DvAll.keep (k : ∀ p o, H p = some o → (∀ ps, o ≠ .tbl ps) → H' p = some o) : ∀ (ds : List PyData) (vs : List V), DvAll H vs ds → DvAll H' vs ds
  | [], _, h => by
    cases h
    exact .nil
  | d :: ds, _, h => by
    cases h with
    | cons h1 h2 => exact .cons (Dv.keep k d _ h1) (DvAll.keep k ds _ h2)
end
theorem Dv.ext {v : V} {d : PyData} (h : Dv H v d) (x : QB.Ext T H H') : Dv H' v d := Dv.keep (fun _ _ e n => x.get e n) d v h
theorem Dv.same {v : V} {d : PyData} (h : Dv H v d) (x : Same H H') : Dv H' v d := Dv.keep (fun _ _ e _ => x _ _ e) d v h
theorem DvAll.ext {vs : List V} {ds : List PyData} (h : DvAll H vs ds) (x : QB.Ext T H H') : DvAll H' vs ds := DvAll.keep (fun _ _ e n => x.get e n) ds vs h
theorem DvAll.same {vs : List V} {ds : List PyData} (h : DvAll H vs ds) (x : Same H H') : DvAll H' vs ds := DvAll.keep (fun _ _ e _ => x _ _ e) ds vs h
theorem DvAll.len : ∀ {vs : List V} {ds : List PyData}, DvAll H vs ds → ds.length = vs.length
  | _, _, .nil => rfl
  | _, _, .cons _ h => by rw [List.length_cons, List.length_cons, DvAll.len h]
theorem DvAll.app : ∀ {xs ys : List V} {ds es : List PyData}, DvAll H xs ds → DvAll H ys es → DvAll H (xs ++ ys) (ds ++ es)
  | _, _, _, _, .nil, h => h
  | _, _, _, _, .cons h1 h2, h => .cons h1 (DvAll.app h2 h)
theorem DvAll.get : ∀ {vs : List V} {ds : List PyData} {i : Nat} {v : V}, DvAll H vs ds → vs[i]? = some v → ∃ d, ds[i]? = some d ∧ Dv H v d
  | _, _, i, _, .nil, e => by simp at e
  | _, _, 0, _, .cons h _, e => by
    simp at e
    subst e
    exact ⟨_, rfl, h⟩
  | _, _, i + 1, _, .cons _ h, e => by
    rw [List.getElem?_cons_succ] at e
    obtain ⟨d, q, r⟩ := DvAll.get h e
    exact ⟨d, by rw [List.getElem?_cons_succ]; exact q, r⟩
theorem DvAll.take : ∀ {vs : List V} {ds : List PyData} (i : Nat), DvAll H vs ds → DvAll H (vs.take i) (ds.take i)
  | _, _, i, .nil => by
    rw [List.take_nil, List.take_nil]
    exact .nil
  | _, _, 0, .cons _ _ => .nil
  | _, _, i + 1, .cons h1 h2 => .cons h1 (DvAll.take i h2)
theorem DvAll.drop : ∀ {vs : List V} {ds : List PyData} (i : Nat), DvAll H vs ds → DvAll H (vs.drop i) (ds.drop i)
  | _, _, i, .nil => by
    rw [List.drop_nil, List.drop_nil]
    exact .nil
  | _, _, 0, .cons h1 h2 => .cons h1 h2
  | _, _, i + 1, .cons _ h2 => DvAll.drop i h2
theorem DvAll.rep {v : V} {d : PyData} (h : Dv H v d) : ∀ n : Nat, DvAll H (List.replicate n v) (List.replicate n d)
  | 0 => .nil
  | n + 1 => by
    rw [List.replicate_succ, List.replicate_succ]
    exact .cons h (DvAll.rep h n)
theorem DvAll.strs : ∀ wd : List Str, DvAll H (wd.map V.str) (wd.map PyData.str)
  | [] => .nil
  | t :: wd => .cons (.str t) (DvAll.strs wd)
theorem DvAll.set : ∀ {vs : List V} {ds : List PyData} (i : Nat) {v : V} {d : PyData}, DvAll H vs ds → Dv H v d → DvAll H (vs.set i v) (ds.set i d)
  | _, _, _, _, _, .nil, _ => .nil
  | _, _, 0, _, _, .cons _ h2, h => .cons h h2
  | _, _, i + 1, _, _, .cons h1 h2, h => .cons h1 (DvAll.set i h2 h)
theorem DvAll.mem : ∀ {vs : List V} {ds : List PyData} {v : V}, DvAll H vs ds → v ∈ vs → ∃ d ∈ ds, Dv H v d
  | _, _, _, .cons (d := d) h1 h2, hm => by
    rcases List.mem_cons.mp hm with rfl | hm
    · exact ⟨d, List.mem_cons_self, h1⟩
    · obtain ⟨e, he, q⟩ := DvAll.mem h2 hm
      exact ⟨e, List.mem_cons_of_mem _ he, q⟩
end
/-! repr -/
/-- data that repr writes without passing a line -/
structure Shows (d : PyData) : Prop where
  few : d.leavesShort 30 = true
  show_ : d.showable = true
  weight : d.weight ≤ 100000
  deep : d.depth ≤ 40
theorem Shows.size {d : PyData} (s : Shows d) : d.shown.length ≤ sizeLine := by
  have h := PyData.shown_le 30 (by decide) d s.few
  have w := s.weight
  rw [sizeLine_eq]
  omega
section
variable {X : Cx} {pins : List (Addr × Obj)} {σ : L2.St} {H : Hp} {s : Shared}
theorem notMods (I : Inv X pins σ H s) (hB : ∃ mm, X.base.Ns sysModules mm) {a : Addr} {o : HO} (h : H a = some o) : sysModules ≠ a := fun e => by
  obtain ⟨mm, u, es, ep, eu, _⟩ := hB
  have := (I.bs _ _ eu).2
  rw [e, h] at this
  cases this
mutual
theorem Dv.reads (I : Inv X pins σ H s) (hB : ∃ mm, X.base.Ns sysModules mm) : ∀ (d : PyData) (v : V) (u : Value), Dv H v d → RelV v u → ∃ as, Reads s.heap u d as ∧ sysModules ∉ as
  | .none, _, _, h, r => by
    cases h
    cases r
    exact ⟨_, .none, List.not_mem_nil⟩
  | .bool b, _, _, h, r => by
    cases h
    cases r
    exact ⟨_, .bool b, List.not_mem_nil⟩
  | .int i, _, _, h, r => by
    cases h
    obtain ⟨t, rfl⟩ := r
    exact ⟨_, .int i t, List.not_mem_nil⟩
  | .str x, _, _, h, r => by
    cases h
    obtain ⟨t, rfl⟩ := r
    exact ⟨_, .str x t, List.not_mem_nil⟩
  | .list ds, _, _, h, r => by
    cases h with
    | lst hs ha =>
      cases r
      obtain ⟨its, rv, ⟨o, n, ho, hc, _, hd⟩, _⟩ := I.list (SqL.of hs)
      obtain ⟨as, hr, ns⟩ := DvAll.reads I hB ds _ its ha rv
      exact ⟨_, .list ho hc hd hr, fun z => (List.mem_cons.mp z).elim (notMods I hB hs) ns⟩
  | .tuple ds, _, _, h, r => by
    cases h with
    | tup hs ha =>
      cases r
      obtain ⟨its, rv, ⟨o, ho, hc, n, hd⟩, _⟩ := I.tuple (SqT.of hs)
      obtain ⟨as, hr, ns⟩ := DvAll.reads I hB ds _ its ha rv
      exact ⟨_, .tuple ho hc hd hr, ns⟩
  | .dict _, _, _, h, r => by
    cases h with
    | @dct a hs =>
      cases r
      obtain ⟨_, hn, vs, kv, o, es, ep, ho, hx, hd, _, hp, _⟩ := dk_of I.hok hs
      cases kv
      have he : es.toList = [] := by
        cases hl : es.toList with
        | nil => rfl
        | cons x r =>
          rw [hl] at hp
          cases hp
      refine ⟨_, .dict (kvs := []) (as := []) (bs := []) ho hx.1 hd (by rw [he]; exact .nil) (by rw [he]; exact .nil), fun z => ?_⟩
      rcases List.mem_cons.mp z with z | z
      · exact notMods I hB hs z
      · exact List.not_mem_nil z
theorem DvAll.reads (I : Inv X pins σ H s) (hB : ∃ mm, X.base.Ns sysModules mm) : ∀ (ds : List PyData) (vs : List V) (us : List Value), DvAll H vs ds → Vals vs us → ∃ as, ReadsAll s.heap us ds as ∧ sysModules ∉ as
  | [], _, _, h, r => by
    cases h
    cases r
    exact ⟨_, .nil, List.not_mem_nil⟩
  | d :: ds, _, _, h, r => by
    cases h with
    | cons h1 h2 =>
      cases r with
      | cons r1 r2 =>
        obtain ⟨as, q1, n1⟩ := Dv.reads I hB d _ _ h1 r1
        obtain ⟨bs, q2, n2⟩ := DvAll.reads I hB ds _ _ h2 r2
        exact ⟨_, .cons q1 q2, fun z => (List.mem_append.mp z).elim n1 n2⟩
end
end
def rReprV : List V → Hp → VK → Prop := fun xs H Q => ∃ (v : V) (d : PyData) (a : Addr), xs = [v] ∧ v = .ref a ∧ Dv H v d ∧ Shows d ∧ Q (.str d.shown) H
section
variable {X : Cx}
theorem call_reprV (hg : X.A.guards = some []) (hu : X.A.units + 64 < cLine) (hB : ∃ mm, X.base.Ns sysModules mm) : CallR X (.builtin "repr") rReprV := by
  intro pins s σ H xs us Q I r ⟨v, d, a, ex, ev, hd, sh, q⟩
  subst ex ev
  obtain ⟨u, rfl, ru⟩ := vals1 r
  have hdp := sh.deep
  obtain ⟨as, rd, ns⟩ := Dv.reads I hB d _ u hd ru
  cases ru
  exact repr_of_reads' rd sh.show_ (fun _ => ns) hg (by omega) (fun _ _ z => z) (fun h' t tk hk => ⟨.str d.shown, H, I.kept (t' := tk) hk, ⟨t, rfl⟩, q⟩) sh.size
end
/-! a class made in a suite that may raise -/
section
variable {X : Cx} {CX : CXT} {k : Nat} {f C : Addr} {fd : FuncData} {ps : List Str} {sp : Sp} {dvs : List V} {ds : List Value} {E : L2.St → XK} {x : Str} {p pos : Pos} {e : Expr} {es : List Expr} {t : TA}
def tMakeS (C : Addr) (sp : Sp) (dvs : List V) (E : L2.St → XK) (t : TA) : TE := fun σ H Q => t σ H fun vs G => ∀ o dx, G o = none → G dx = none → dx ≠ o →
  sp (.ref o :: (vs ++ dvs)) (upd (upd G dx (.own o)) o (.ins C dx [])) (fun r G2 => r = .non ∧ Q (.ref o) G2) (E σ)
theorem mk_run {pins : List (Addr × Obj)} {σ : L2.St} {H : Hp} {s : Shared} {Q : VK} {us : List Value} {vs : List V} (cm : Mk X.K C f) (fn : FnOk X.prog X.w X.K X.mg X.base CX k f fd ps sp) (room : Room (k + 1) X.A) (bi : Binds X.K fd ps ds) (dv : Vals dvs ds)
    (px : PassesAt CX X σ (E σ)) (inv : Inv X pins σ H s) (rel : Vals vs us)
    (go : ∀ o dx, H o = none → H dx = none → dx ≠ o → sp (.ref o :: (vs ++ dvs)) (upd (upd H dx (.own o)) o (.ins C dx [])) (fun r G2 => r = .non ∧ Q (.ref o) G2) (E σ)) :
    wpAny (model X.prog X.w) X.A (call (.ref C) us) (EP X pins σ Q) X.xe s := by
  have new1 : H (s.heap.objs.size + 1) = none := inv.hok.fresh (by omega)
  have new0 : H s.heap.objs.size = none := inv.hok.fresh (by omega)
  have said := go _ _ new1 new0 (show s.heap.objs.size ≠ s.heap.objs.size + 1 by omega)
  have inv2 := Inv.made (C := C) inv
  have rel2 : Vals (V.ref (s.heap.objs.size + 1) :: (vs ++ dvs)) (Value.ref (s.heap.objs.size + 1) :: (us ++ ds)) := .cons rfl (rel.append dv)
  have many : (Value.ref (s.heap.objs.size + 1) :: us ++ ds).length = ps.length := by
    have := rel2.length
    rw [fn.len _ _ _ _ said] at this
    exact this.symm
  have ran := fn.run _ X.stack _ _ ⟨Value.ref (s.heap.objs.size + 1) :: us, []⟩ (Value.ref (s.heap.objs.size + 1) :: (us ++ ds)) _ _ (E σ) (room.make C us []) (inv2.env0.make C us []) (bi _ (Value.ref (s.heap.objs.size + 1) :: us) inv2.kIn many) rel2 said
  refine wpAny_call (make_map (f := f) inv.kIn cm.makes cm.init (beq_iff_eq.mp cm.fn) (codeAny_mono ran fun out s' got => ?_))
  cases out with
  | error err => exact px pins _ _ err s' inv2 got
  | ok way =>
    cases way with
    | ret u =>
      have done := inv2.after got
      obtain ⟨v, G, inv3, rv, ev, q⟩ := done
      subst ev
      exact ⟨rv, ⟨V.ref (s.heap.objs.size + 1), G, inv3, rfl, q⟩⟩
    | _ => exact False.elim got
theorem pe_makeS (cm : Mk X.K C f) (fn : FnOk X.prog X.w X.K X.mg X.base CX k f fd ps sp) (room : Room (k + 1) X.A) (gl : Gl X x) (mgx : X.mg x = some (.ref C)) (bi : Binds X.K fd ps ds) (dv : Vals dvs ds) (px : ∀ σ, PassesAt CX X σ (E σ))
    (args : PA X (e :: es) t) (nd : (x == ("__debug__" : Str)) = false := by decide) (st : starEach (e :: es) X.env = (false, eval e X.env) :: starEach es X.env := by rfl) (pl : (backTo pos (starEach es X.env)).any (·.1) = false := by rfl) :
    PE X (.Call (.Name x p) (e :: es) [] pos) (tMakeS C sp dvs E t) := by
  refine ⟨fun pins s σ H Q inv said => wpAny_Call_Name_kw (ld_glob inv gl mgx ?_ nd)⟩
  have := args.run pos pins s σ H _ inv said
  exact PySem.W.callWith_K (h₀ := X.base) inv.ok.mod.kin cm.kp (thn this fun us s1 ⟨vs, G, inv1, rel, q⟩ => ⟨inv1.kIn, mk_run cm fn room bi dv (px σ) inv1 rel q⟩) st pl
end
/-! a list beside an empty one -/
def rNil (neg : Bool) : R2 := fun x y H Q => ∃ (p q : Addr) (xs : List V), x = .ref p ∧ y = .ref q ∧ H p = some (.lst xs) ∧ H q = some (.lst []) ∧ Q (.bl (if neg then !xs.isEmpty else xs.isEmpty)) H
section
variable {X : Cx}
theorem op_eqNil (hu : X.A.units + 64 < cLine) : OpR X (compareOp .Eq) (rNil false) := by
  intro pins s σ H x y v u Q I rx ry ⟨p, q, xs, ex, ey, h1, h2, k⟩
  subst ex ey
  cases rx
  cases ry
  obtain ⟨its, rv, pl, _⟩ := I.list (SqL.of h1)
  obtain ⟨its2, rv2, pl2, _⟩ := I.list (SqL.of h2)
  cases rv2
  cases rv with
  | nil => exact SeqAt.RcAt.lists pl.isList pl2.isList rfl (by omega) (e := fun _ => true) (fun j h => absurd h (Nat.not_lt_zero _)) _ _ _ _ ⟨.bl true, H, I, rfl, k⟩
  | cons _ _ => exact SeqAt.RcAt.lists_lengths pl.isList pl2.isList (by simp) (by omega) _ _ _ _ ⟨.bl false, H, I, rfl, k⟩
theorem op_neNil (hu : X.A.units + 64 < cLine) : OpR X (compareOp .NotEq) (rNil true) := by
  intro pins s σ H x y v u Q I rx ry ⟨p, q, xs, ex, ey, h1, h2, k⟩
  subst ex ey
  cases rx
  cases ry
  obtain ⟨its, rv, pl, _⟩ := I.list (SqL.of h1)
  obtain ⟨its2, rv2, pl2, _⟩ := I.list (SqL.of h2)
  cases rv2
  cases rv with
  | nil => exact SeqAt.RcNeAt.lists pl.isList pl2.isList rfl (by omega) (e := fun _ => true) (fun j h => absurd h (Nat.not_lt_zero _)) _ _ _ _ ⟨.bl false, H, I, rfl, k⟩
  | cons _ _ => exact SeqAt.RcNeAt.lists_lengths pl.isList pl2.isList (by simp) (by omega) _ _ _ _ ⟨.bl true, H, I, rfl, k⟩
end
/-- 'a' * 9 -/
def nine : Str := ⟨(List.replicate (9 : Int).toNat (Str.ofString "a").cps).foldl (· ++ ·) #[]⟩
theorem op_mul9 {X : Cx} : OpR X (binaryOp .Mult) (fun x y H Q => x = .str (Str.ofString "a") ∧ y = .int 9 ∧ Q (.str nine) H) := by
  intro pins s σ H x y v u Q I rx ry ⟨ex, ey, q⟩
  subst ex ey
  obtain ⟨t, rfl⟩ := (show ∃ t, v = Value.str (Str.ofString "a") t from rx)
  obtain ⟨t', rfl⟩ := (show ∃ t, u = Value.int 9 t from ry)
  refine PySem.P.mul_str (by decide) (fun _ _ => by decide +kernel) (fun _ _ => by decide +kernel) ?_
  rw [if_neg (by decide), if_neg (by decide +kernel)]
  exact ⟨by decide +kernel, ⟨.str nine, H, I.tok _, ⟨_, rfl⟩, q⟩⟩
theorem bo_repr : bootBuiltins (Str.ofString "repr") = some (.builtin "repr") := by decide +kernel
end QV
end

section
set_option Elab.async false
set_option linter.all false
set_option maxRecDepth 100000
set_option maxHeartbeats 2000000
/-! Qtop2: the law called from the top, where nothing is being written by repr and the modules stand in their place. -/
namespace QT
open PySem PySem.Spec PyProof.Rows L2 LamX
/-- the law's promise, asked of the caller's surroundings alone -/
def RunG (P : Program) (w : World) (K : PySem.W.Frag) (mg : Str → Option Value) (base : Heap) (CX : CXT) (fa : Addr) (fd : FuncData) (x : Str) (sp : Sp) : Prop :=
  ∀ (s : Shared) (H : Hp) (u : Value) (v : V) (Q : VK) (E : XK), Env0 P w K mg base callerA [] s H → BindsTo s fd ⟨[u], []⟩ [(x, u)] → RelV v u → sp [v] H Q E → codeAny (model P w) callerA (.call (.ref fa) ⟨[u], []⟩) (CR CX [] P w H s Q E) s
section
variable {P : Program} {w : World} {K : PySem.W.Frag} {mg mb : Str → Option Value} {CX : CXT} {fa a : Addr} {cs : List (Addr × Addr)} {fd : FuncData} {x : Str} {sp : Sp} {s₁ : Shared} {vs : List Value} {ns : List Int}
abbrev tabO : Obj := { cls := .none, data := .fields #[] }
abbrev lstO (vs : List Value) : Obj := { cls := .type "list", data := .seq vs.toArray }
open Classical in
/-- what is tracked at the start: the script, where it isn't written by the top, and the tables -/
noncomputable def H0 (K : PySem.W.Frag) (cs : List (Addr × Addr)) (vs : List Value) (ns : List Int) (a : Addr) : Hp := fun b =>
  if b = a ∧ K.lookup a = none then some (.frz (lstO vs) (.lst (ns.map V.int))) else if b ∈ cs.map (·.2) then some (.tbl #[]) else none
theorem h0_or {b : Addr} : (b = a ∧ K.lookup a = none ∧ H0 K cs vs ns a b = some (.frz (lstO vs) (.lst (ns.map V.int)))) ∨ (b ∈ cs.map (·.2) ∧ H0 K cs vs ns a b = some (.tbl #[])) ∨ H0 K cs vs ns a b = none := by
  unfold H0
  by_cases h1 : b = a ∧ K.lookup a = none
  · exact .inl ⟨h1.1, h1.2, if_pos h1⟩
  · rw [if_neg h1]
    by_cases h2 : b ∈ cs.map (·.2)
    · exact .inr (.inl ⟨h2, if_pos h2⟩)
    · exact .inr (.inr (if_neg h2))
theorem law_callG (KX : K.In s₁.heap) (hns : s₁.heap.Ns mainGlobals mg) (hb : s₁.heap.Ns builtinsNs mb) (hbb : ∀ x : Str, x ≠ "__name__" → mb x = bootBuiltins x) (hlim : s₁.heap.NoLimit) (hg : s₁.gens = #[])
    (hT : ∀ p ∈ cs, s₁.heap.get? p.2 = some tabO) (nT : ∀ p ∈ cs, K.lookup p.2 = none) (C : ∀ p ∈ cs, PySem.W.CodeHd s₁.heap p.1 p.2)
    (hbm : ∃ (bm : Addr) (ob : Obj), mg "__builtins__" = some (.ref bm) ∧ bm ≠ builtinsNs ∧ s₁.heap.get? bm = some ob ∧ ob.cls = .type "module" ∧ ob.dict = some builtinsNs ∧ ob.data = .plain)
    (ha : s₁.heap.get? a = some (lstO vs)) (hi : IntsAre vs ns) (hl : ns.length ≤ sizeLine)
    (hmm : ∃ mm, s₁.heap.Ns sysModules mm) (F : ∀ base : Heap, K.In base → base.Ns mainGlobals mg → (∃ mm, base.Ns sysModules mm) → (∀ p ∈ cs, TabB base mg p.1 p.2) → RunG P w K mg base CX fa fd x sp) (hbind : ∀ (s : Shared) (u : Value), BindsTo s fd ⟨[u], []⟩ [(x, u)])
    (hsp : ∀ H : Hp, (∀ p ∈ cs, H p.2 = some (.tbl #[])) → SqL K H a (ns.map V.int) → sp [.ref a] H (fun v _ => v = .bl true) fun _ _ _ => False)
    (hCX : ∀ H e s', CX [] H s₁ (fun _ _ _ => False) e s' → False) :
    codeAny (model P w) callerA (.call (.ref fa) ⟨[.ref a], []⟩) (fun r s' => r = .ok (.ret (.bool true)) ∧ OldK s₁.heap s'.heap ∧ s'.os = s₁.os ∧ AllBare s'.gens) s₁ := by
  have rv := vals_ints hi
  have hvl : vs.length = ns.length := hi.length
  have tabs : ∀ {b : Addr}, b ∈ cs.map (·.2) → ∃ p ∈ cs, p.2 = b ∧ s₁.heap.get? b = some tabO := fun hb => by
    obtain ⟨p, hp, rfl⟩ := List.mem_map.mp hb
    exact ⟨p, hp, rfl, hT p hp⟩
  have aT : a ∉ cs.map (·.2) := fun hm => by
    obtain ⟨_, _, _, e⟩ := tabs hm
    rw [ha] at e
    have e2 := congrArg Obj.data (Option.some.inj e)
    cases e2
  have hTab : ∀ p ∈ cs, H0 K cs vs ns a p.2 = some (.tbl #[]) := fun p hp => by
    have hm : p.2 ∈ cs.map (·.2) := List.mem_map.mpr ⟨p, hp, rfl⟩
    rcases h0_or (K := K) (cs := cs) (vs := vs) (ns := ns) (a := a) (b := p.2) with ⟨e, _⟩ | ⟨_, h⟩ | h
    · exact absurd (e ▸ hm) aT
    · exact h
    · unfold H0 at h
      rw [if_neg (fun q : p.2 = a ∧ K.lookup a = none => aT (q.1 ▸ hm)), if_pos hm] at h
      cases h
  have hSq : SqL K (H0 K cs vs ns a) a (ns.map V.int) := by
    cases hk : K.lookup a with
    | none => exact .inl (.inr ⟨lstO vs, by unfold H0; rw [if_pos ⟨rfl, hk⟩]⟩)
    | some o =>
      have e := KX a o hk
      rw [ha] at e
      cases e
      exact .inr ⟨_, vs.toArray, _, hk, rfl, rfl, rfl, by rw [List.size_toArray, hvl]; exact hl, by simpa using rv⟩
  have hOk : HOk P w (H0 K cs vs ns a) s₁.heap := fun b u hu => by
    rcases h0_or (K := K) (cs := cs) (vs := vs) (ns := ns) (a := a) (b := b) with ⟨rfl, _, h⟩ | ⟨hm, h⟩ | h
    · rw [h] at hu
      cases hu
      exact ⟨ha, by rw [List.length_map]; exact hl, vs, _, rv, ha⟩
    · rw [h] at hu
      cases hu
      obtain ⟨_, _, _, e⟩ := tabs hm
      exact e
    · rw [h] at hu
      cases hu
  -- what is neither the script nor a table stays in sight
  have free : ∀ {b : Addr} {o : Obj}, s₁.heap.get? b = some o → (∀ k m, o.data ≠ .seq k m) → o.data ≠ .fields #[] → H0 K cs vs ns a b = none := fun {b o} e h1 h2 => by
    rcases h0_or (K := K) (cs := cs) (vs := vs) (ns := ns) (a := a) (b := b) with ⟨rfl, _⟩ | ⟨hm, _⟩ | h
    · rw [ha] at e
      cases e
      exact absurd rfl (h1 _ _)
    · obtain ⟨_, _, _, q⟩ := tabs hm
      rw [q] at e
      cases e
      exact absurd rfl h2
    · exact h
  generalize hH : H0 K cs vs ns a = H at hTab hSq hOk free
  have sight : ∀ {b : Addr} {o : Obj}, s₁.heap.get? b = some o → H b = none → (hidT s₁.heap H).get? b = some o := fun e n => hidT_get e n
  have names : ∀ {b : Addr} {m : Str → Option Value}, s₁.heap.Ns b m → (hidT s₁.heap H).Ns b m := fun {b m} ⟨o, es, ep, e, d, r⟩ => ⟨o, es, ep, sight e (free e (fun k m z => by rw [d] at z; cases z) (fun z => by rw [d] at z; cases z)), d, r⟩
  have kept : K.In (hidT s₁.heap H) := fun b o e => sight (KX b o e) (by
    rcases h0_or (K := K) (cs := cs) (vs := vs) (ns := ns) (a := a) (b := b) with ⟨rfl, n, _⟩ | ⟨hm, _⟩ | h
    · rw [e] at n
      cases n
    · obtain ⟨p, hp, rfl, _⟩ := tabs hm
      rw [nT p hp] at e
      cases e
    · rw [← hH]
      exact h)
  have tabB : ∀ p ∈ cs, TabB (hidT s₁.heap H) mg p.1 p.2 := fun p hp => by
    have here := hT p hp
    refine ⟨?_, ?_, fun z => ?_⟩
    · obtain ⟨o, us, file, tf, flags, tg, inF, text, tt, e, q1, q2, q3, q⟩ := C p hp
      refine ⟨o, us, file, tf, flags, tg, inF, text, tt, sight e (free e (fun k m z => ?_) fun z => ?_), q1, q2, q3, q⟩
      · rw [q2] at z
        cases z
      · rw [q2] at z
        cases z
        simp at q3
    · obtain ⟨bm, ob, b1, b2, b3, b4, b5, b6⟩ := hbm
      refine ⟨bm, ob, b1, b2, fun z => ?_, fun z => ?_, sight b3 (free b3 (fun k m z => ?_) fun z => ?_), b4, b5, b6⟩
      · obtain ⟨o, es, ep, e, hd, _⟩ := hns
        rw [← z, b3] at e
        cases e
        rw [b6] at hd
        cases hd
      · rw [z, here] at b3
        cases b3
        cases b6
      · rw [b6] at z
        cases z
      · rw [b6] at z
        cases z
    · obtain ⟨o, es, ep, e, hd, _⟩ := hns
      rw [z, here] at e
      cases e
      cases hd
  have modOk : L2.Mod K mg (hidT s₁.heap H) := ⟨kept, names hns, ⟨mb, names hb, hbb⟩, let ⟨mc, h1, h2⟩ := hlim; ⟨mc, names h1, h2⟩⟩
  have env0 : Env0 P w K mg (hidT s₁.heap H) callerA [] s₁ H := ⟨rfl, modOk, fun b o e => of_hidT e, Nat.le_of_eq (hidT_size _ _), trivial, fun b hb => (nomatch hb), hOk, .of_eq hg⟩
  refine codeAny_mono (F _ kept (names hns) (hmm.imp fun _ z => names z) tabB s₁ H (.ref a) (.ref a) _ _ env0 (hbind s₁ (.ref a)) rfl (hsp H hTab hSq)) fun r s' hr => ?_
  cases r with
  | error e => exact (hCX H e s' hr).elim
  | ok fl =>
    cases fl with
    | next => exact hr.elim
    | brk => exact hr.elim
    | cont => exact hr.elim
    | ret u =>
      obtain ⟨v, G, os, bare, un, okG, ru, q⟩ := hr
      obtain rfl : v = .bl true := q
      obtain rfl : u = Value.bool true := ru
      have same : ∀ {b : Addr} {o : Obj}, b ∉ cs.map (·.2) → s₁.heap.get? b = some o → s'.heap.get? b = some o := fun {b o} nb e => by
        rcases h0_or (K := K) (cs := cs) (vs := vs) (ns := ns) (a := a) (b := b) with ⟨_, _, h⟩ | ⟨hm, _⟩ | h
        · rw [hH] at h
          obtain ⟨e1, _⟩ := hOk b _ h
          obtain ⟨e2, _⟩ := okG b _ (un.frzs b _ _ h)
          rw [e1] at e
          cases e
          exact e2
        · exact absurd hm nb
        · rw [hH] at h
          exact un.keep b o e h (fun z => nomatch z) (fun z => nomatch z)
      refine ⟨rfl, ⟨fun b o e => ?_, fun b o e => ?_⟩, os, bare⟩
      · by_cases hb : b ∈ cs.map (·.2)
        · obtain ⟨p, hp, rfl, q⟩ := tabs hb
          obtain ⟨more, z⟩ := un.tbls p.2 #[] (hTab p hp)
          rw [q] at e
          cases e
          exact .inr (.inl ⟨((C p hp).tab q).isCodeTable, rfl, #[], more, rfl, okG p.2 _ z⟩)
        · exact .inl (same hb e)
      · by_cases hb : b ∈ cs.map (·.2)
        · obtain ⟨p, hp, rfl, q⟩ := tabs hb
          obtain ⟨more, z⟩ := un.tbls p.2 #[] (hTab p hp)
          exact ⟨_, okG p.2 _ z⟩
        · exact ⟨o, same hb e⟩
end
/-- what is known of the law's promise at the head's heap -/
def LawG (l : PySem.W.OpenLaw) (w : World) (K : PySem.W.Frag) (CX : CXT) (n : Nat) (x : Str) (mg : Str → Option Value) (fa : Addr) (h : Heap) : Prop :=
  ∃ (fd : FuncData) (cs : List (Addr × Addr)) (sp : Sp), (∀ p ∈ cs, h.get? p.2 = some tabO) ∧ (∀ p ∈ cs, K.lookup p.2 = none) ∧ (∀ p ∈ cs, PySem.W.CodeHd h p.1 p.2) ∧ (∀ (s : Shared) (u : Value), BindsTo s fd ⟨[u], []⟩ [(x, u)]) ∧
    (∀ (H : Hp) (a : Addr) (ns : List Int), ns.length ≤ n → (∀ p ∈ cs, H p.2 = some (.tbl #[])) → SqL K H a (ns.map V.int) → sp [.ref a] H (fun v _ => v = .bl true) fun _ _ _ => False) ∧
    ∀ base : Heap, K.In base → base.Ns mainGlobals mg → (∃ mm, base.Ns sysModules mm) → (∀ p ∈ cs, TabB base mg p.1 p.2) → RunG l.prog w K mg base CX fa fd x sp
theorem walk_ofG {l : PySem.W.OpenLaw} {n : Nat} {q : Program} {loose : List Str} {XP : (Str → Option Value) → Heap → Prop} {YP : World → Heap → Prop} {d : DefRec} {CX : World → CXT} {x : Str}
    (hn : l.most = some n) (hn2 : n ≤ sizeLine) (hdf : d.params.defaults = []) (hi : importsNone q = true)
    (F : ∀ (w : World) (mg : Str → Option Value) (fa : Addr) (h : Heap), YP w h → h.Ns mainGlobals mg → mg d.name = some (.ref fa) → ∃ K : PySem.W.Frag, K.In h ∧ LawG l w K (CX w) n x mg fa h)
    (hCX : ∀ (w : World) (H : Hp) (s : Shared) (e : Value) (s' : Shared), CX w [] H s (fun _ _ _ => False) e s' → False) :
    PySem.W.WalkO q loose XP YP l.row.toRowW d [] (fun f vs => PySem.call f vs) := by
  refine Att.attach_callB hn hdf fun w s₀ s₁ mg mb fa o pm cd doc a vs ns G Y ho hd hcd hmg hobj hints hlen _ hg => ?_
  obtain ⟨K, KX, fd, cs, sp, h1, h2, h3, h4, h5, h6⟩ := F w mg fa _ Y G.T.g hmg
  exact law_callG KX G.T.g G.T.b G.T.builtins G.T.nolimit hg h1 h2 h3 G.T.bmain hobj hints (Nat.le_trans hlen hn2) ((G.T.seer hi).mods.imp fun _ z => z.1) h6 h4 (fun H a1 a2 => h5 H a ns hlen a1 a2) fun H e s' => hCX w H s₁ e s'
end QT
namespace QT
open PySem PySem.Spec PyProof.Rows L2 LamX
theorem guards0 {env : Env} : (callerA.deeper env).guards = some [] := by
  first
    | rfl
    | simp [callerA, Around.deeper]
section
variable {P : Program} {w : World} {K : PySem.W.Frag} {mg : Str → Option Value} {base : Heap}
/-- the promise out of the body, in the caller's surroundings -/
theorem run_ofG {x qual y : Str} {st : Stmt} {f : Addr} {fd : FuncData} {N : List Str} {k : Nat} {sp : Sp} (F : Fun K x qual st f fd) (S : FnScope N [y] (defScope st)) (hr : Room (k + 1) callerA) (len : ∀ vs H Q E, sp vs H Q E → vs.length = 1)
    (hbody : ∀ (cdv : Value) (s : Shared) (H : Hp) (vs : List V) (Q : VK) (E : XK), Room k (callerA.deeper (envOfC qual (defScope st) s.heap.objs.size f cdv)) → sp vs H Q E →
      ∃ t, PSs (cxOf CX0 P w K mg base N qual (defScope st) f cdv callerA [] s H E).nox (defBody st) t ∧ t { nx := fun _ H' => Q .non H', rt := Q } (start N vs) H) : RunG P w K mg base CX0 f fd y sp := by
  obtain ⟨oc, od, kV, doc, pm, an, cdv, ct, osl, rfl, lk, hcd⟩ := F.ex
  intro s H u v Q E e0 hb r hsp
  have stay : ∀ b o, base.get? b = some o → s.heap.get? b = some o := fun b o e => (e0.bs b o e).1
  have kin : K.In s.heap := e0.mod.kin.keeps stay
  have where_ : ∀ z ∈ [(y, u)], (defScope st).names.lookup z.1 = some .local ∨ ((defScope st).names.lookup z.1 = some .cell ∧ ((cellsFrom (s.heap.objs.size + 1) (defScope st).names []).lookup z.1).isSome = true) := fun z hz => by
    have e : z = (y, u) := by simpa using hz
    rcases S.par z.1 (by rw [e]; exact List.mem_singleton.mpr rfl) with q | q
    · exact .inl q
    · exact .inr ⟨q, PySem.W.cellsFrom_some _ _ _ (.inl q)⟩
  refine codeAny_call_function hr.depth (kin _ _ lk) rfl S.co S.gen rfl (PySem.W.codeRec_of kin hcd) (hb _ _ _ _ (wpAny_newFunctionEnv_cells S.kind where_ fun env he s1 q1 => ?_))
  subst he
  refine ⟨(e0.mod.nolimit.keeps stay).keeps q1.toInCall.keep, codeAny_func ?_⟩
  obtain ⟨t, ht, hq⟩ := hbody cdv s H [v] Q E (hr.deeper _) hsp
  have I : Inv (cxOf CX0 P w K mg base N qual (defScope st) f cdv callerA [] s H E) [] (start N [v]) H s1 := inv_start (ps := [y]) (us := [u]) S hr.hd e0 rfl (.cons r .nil) q1
  refine wpAny_mono (ht.nox.run [] s1 (start N [v]) H _ I hq) (fun fl s' hs => ?_) fun _ _ hs => hs
  cases fl with
  | ret z =>
    obtain ⟨v', τ, G, J, rv, q⟩ := hs
    exact ⟨v', G, J.os, J.bare, J.base, J.hok, rv, q⟩
  | next =>
    obtain ⟨τ, G, J, q⟩ := hs
    exact ⟨.non, G, J.os, J.bare, J.base, J.hok, rfl, q⟩
  | brk =>
    obtain ⟨τ, G, J, q⟩ := hs
    exact q.elim
  | cont =>
    obtain ⟨τ, G, J, q⟩ := hs
    exact q.elim
end
end QT
end

section
set_option Elab.async false
set_option linter.all false
set_option maxRecDepth 100000
set_option maxHeartbeats 4000000
namespace Law
open PySem PySem.Spec PyProof.Rows L2 LamX QB QM
def topS (i : Nat) : Stmt := PySem.Challenge.pw_subjecttags_k61_eaters_as_text.main.body.getD i (.Pass ⟨0, 0, 0, 0⟩)
abbrev s__wall : Stmt := topS 0
theorem sc__wall : FnScope ["k"] ["k"] (defScope s__wall) := ⟨rfl, rfl, rfl, by decide +kernel, rfl, by decide +kernel, by decide +kernel⟩
abbrev s_InvalidTags___init__ : Stmt := inClass (topS 3) 0
theorem sc_InvalidTags___init__ : FnScope ["self", "index"] ["self", "index"] (defScope s_InvalidTags___init__) := ⟨rfl, rfl, rfl, by decide +kernel, rfl, by decide +kernel, by decide +kernel⟩
abbrev s_InvalidSubject___init__ : Stmt := inClass (topS 4) 0
theorem sc_InvalidSubject___init__ : FnScope ["self", "index"] ["self", "index"] (defScope s_InvalidSubject___init__) := ⟨rfl, rfl, rfl, by decide +kernel, rfl, by decide +kernel, by decide +kernel⟩
abbrev s_InvalidEater___init__ : Stmt := inClass (topS 5) 0
theorem sc_InvalidEater___init__ : FnScope ["self", "index"] ["self", "index"] (defScope s_InvalidEater___init__) := ⟨rfl, rfl, rfl, by decide +kernel, rfl, by decide +kernel, by decide +kernel⟩
abbrev s_InvalidText___init__ : Stmt := inClass (topS 6) 0
theorem sc_InvalidText___init__ : FnScope ["self", "line"] ["self", "line"] (defScope s_InvalidText___init__) := ⟨rfl, rfl, rfl, by decide +kernel, rfl, by decide +kernel, by decide +kernel⟩
abbrev s_is_number : Stmt := topS 14
theorem sc_is_number : FnScope ["x", "least", "most"] ["x", "least", "most"] (defScope s_is_number) := ⟨rfl, rfl, rfl, by decide +kernel, rfl, by decide +kernel, by decide +kernel⟩
abbrev s_is_list : Stmt := topS 15
theorem sc_is_list : FnScope ["x", "least", "most"] ["x", "least", "most"] (defScope s_is_list) := ⟨rfl, rfl, rfl, by decide +kernel, rfl, by decide +kernel, by decide +kernel⟩
abbrev s_is_name : Stmt := topS 16
theorem sc_is_name : FnScope ["x", "letter"] ["x"] (defScope s_is_name) := ⟨rfl, rfl, rfl, by decide +kernel, rfl, by decide +kernel, by decide +kernel⟩
abbrev s_is_tag : Stmt := topS 17
theorem sc_is_tag : FnScope ["tags", "x"] ["tags", "x"] (defScope s_is_tag) := ⟨rfl, rfl, rfl, by decide +kernel, rfl, by decide +kernel, by decide +kernel⟩
abbrev s_is_subject : Stmt := topS 18
theorem sc_is_subject : FnScope ["tags", "x", "tag"] ["tags", "x"] (defScope s_is_subject) := ⟨rfl, rfl, rfl, by decide +kernel, rfl, by decide +kernel, by decide +kernel⟩
abbrev s_is_standing : Stmt := topS 19
theorem sc_is_standing : FnScope ["tags", "many", "x", "word", "ways", "way"] ["tags", "many", "x"] (defScope s_is_standing) := ⟨rfl, rfl, rfl, by decide +kernel, rfl, by decide +kernel, by decide +kernel⟩
abbrev s_check_tags : Stmt := topS 20
theorem sc_check_tags : FnScope ["tags", "at", "tag"] ["tags"] (defScope s_check_tags) := ⟨rfl, rfl, rfl, by decide +kernel, rfl, by decide +kernel, by decide +kernel⟩
abbrev s_check_word : Stmt := topS 21
theorem sc_check_word : FnScope ["tags", "word", "most", "at", "tag"] ["tags", "word", "most"] (defScope s_check_word) := ⟨rfl, rfl, rfl, by decide +kernel, rfl, by decide +kernel, by decide +kernel⟩
abbrev s_check_standings : Stmt := topS 22
theorem sc_check_standings : FnScope ["tags", "standings", "at", "standing"] ["tags", "standings"] (defScope s_check_standings) := ⟨rfl, rfl, rfl, by decide +kernel, rfl, by decide +kernel, by decide +kernel⟩
abbrev s_no_ways : Stmt := topS 24
theorem sc_no_ways : FnScope ["tags"] ["tags"] (defScope s_no_ways) := ⟨rfl, rfl, rfl, by decide +kernel, rfl, by decide +kernel, by decide +kernel⟩
abbrev s_walked : Stmt := topS 25
theorem sc_walked : FnScope ["tags", "standings", "word", "at", "many", "tag", "way"] ["tags", "standings", "word"] (defScope s_walked) := ⟨rfl, rfl, rfl, by decide +kernel, rfl, by decide +kernel, by decide +kernel⟩
abbrev s_made : Stmt := topS 26
theorem sc_made : FnScope ["tags", "standings", "subject", "at", "many"] ["tags", "standings", "subject"] (defScope s_made) := ⟨rfl, rfl, rfl, by decide +kernel, rfl, by decide +kernel, by decide +kernel⟩
abbrev s_is_settled_at : Stmt := topS 27
theorem sc_is_settled_at : FnScope ["standing", "way"] ["standing"] (defScope s_is_settled_at) := ⟨rfl, rfl, rfl, by decide +kernel, rfl, by decide +kernel, by decide +kernel⟩
abbrev s_is_made_at : Stmt := topS 28
theorem sc_is_made_at : FnScope ["tags", "standing", "subject", "word", "ways", "stops", "tag", "way"] ["tags", "standing", "subject"] (defScope s_is_made_at) := ⟨rfl, rfl, rfl, by decide +kernel, rfl, by decide +kernel, by decide +kernel⟩
abbrev s_copied : Stmt := topS 29
theorem sc_copied : FnScope ["standings", "word", "ways"] ["standings"] (defScope s_copied) := ⟨rfl, rfl, rfl, by decide +kernel, rfl, by decide +kernel, by decide +kernel⟩
abbrev s_without_needless_ways : Stmt := topS 30
theorem sc_without_needless_ways : FnScope ["tags", "standings", "needed", "settled", "at", "word", "ways", "place", "tag", "way"] ["tags", "standings"] (defScope s_without_needless_ways) := ⟨rfl, rfl, rfl, by decide +kernel, rfl, by decide +kernel, by decide +kernel⟩
abbrev s_numbered : Stmt := topS 31
theorem sc_numbered : FnScope ["marks", "numbers", "told", "mark"] ["marks"] (defScope s_numbered) := ⟨rfl, rfl, rfl, by decide +kernel, rfl, by decide +kernel, by decide +kernel⟩
abbrev s_parted : Stmt := topS 32
theorem sc_parted : FnScope ["classes", "standings", "marks", "number", "_", "ways", "way"] ["classes", "standings"] (defScope s_parted) := ⟨rfl, rfl, rfl, by decide +kernel, rfl, by decide +kernel, by decide +kernel⟩
abbrev s_alike_classes : Stmt := topS 33
theorem sc_alike_classes : FnScope ["standings", "classes", "many", "word", "_"] ["standings"] (defScope s_alike_classes) := ⟨rfl, rfl, rfl, by decide +kernel, rfl, by decide +kernel, by decide +kernel⟩
abbrev s_in_order_met : Stmt := topS 34
theorem sc_in_order_met : FnScope ["standings", "classes", "numbers", "met", "told", "beside", "ways", "way"] ["standings", "classes"] (defScope s_in_order_met) := ⟨rfl, rfl, rfl, by decide +kernel, rfl, by decide +kernel, by decide +kernel⟩
abbrev s_least_form : Stmt := topS 35
theorem sc_least_form : FnScope ["tags", "standings", "needed"] ["tags", "standings"] (defScope s_least_form) := ⟨rfl, rfl, rfl, by decide +kernel, rfl, by decide +kernel, by decide +kernel⟩
abbrev s_Eater___init__ : Stmt := inClass (topS 37) 0
theorem sc_Eater___init__ : FnScope ["self", "tags", "standings"] ["self", "tags", "standings"] (defScope s_Eater___init__) := ⟨rfl, rfl, rfl, by decide +kernel, rfl, by decide +kernel, by decide +kernel⟩
abbrev s_Eater___len__ : Stmt := inClass (topS 37) 1
theorem sc_Eater___len__ : FnScope ["self"] ["self"] (defScope s_Eater___len__) := ⟨rfl, rfl, rfl, by decide +kernel, rfl, by decide +kernel, by decide +kernel⟩
abbrev s_Eater___eq__ : Stmt := inClass (topS 37) 2
theorem sc_Eater___eq__ : FnScope ["self", "other"] ["self", "other"] (defScope s_Eater___eq__) := ⟨rfl, rfl, rfl, by decide +kernel, rfl, by decide +kernel, by decide +kernel⟩
abbrev s_Eater___contains__ : Stmt := inClass (topS 37) 3
theorem sc_Eater___contains__ : FnScope ["self", "x", "standing"] ["self", "x"] (defScope s_Eater___contains__) := ⟨rfl, rfl, rfl, by decide +kernel, rfl, by decide +kernel, by decide +kernel⟩
abbrev s_Eater_tags : Stmt := inClass (topS 37) 4
theorem sc_Eater_tags : FnScope ["self"] ["self"] (defScope s_Eater_tags) := ⟨rfl, rfl, rfl, by decide +kernel, rfl, by decide +kernel, by decide +kernel⟩
abbrev s_Eater_standings : Stmt := inClass (topS 37) 5
theorem sc_Eater_standings : FnScope ["self"] ["self"] (defScope s_Eater_standings) := ⟨rfl, rfl, rfl, by decide +kernel, rfl, by decide +kernel, by decide +kernel⟩
abbrev s_Eater_on : Stmt := inClass (topS 37) 6
theorem sc_Eater_on : FnScope ["self", "subject"] ["self", "subject"] (defScope s_Eater_on) := ⟨rfl, rfl, rfl, by decide +kernel, rfl, by decide +kernel, by decide +kernel⟩
abbrev s_Eater_settled : Stmt := inClass (topS 37) 7
theorem sc_Eater_settled : FnScope ["self", "word", "at", "many"] ["self", "word"] (defScope s_Eater_settled) := ⟨rfl, rfl, rfl, by decide +kernel, rfl, by decide +kernel, by decide +kernel⟩
abbrev s_Eater_then : Stmt := inClass (topS 37) 8
theorem sc_Eater_then : FnScope ["self", "other"] ["self", "other"] (defScope s_Eater_then) := ⟨rfl, rfl, rfl, by decide +kernel, rfl, by decide +kernel, by decide +kernel⟩
abbrev s_Eater_power : Stmt := inClass (topS 37) 9
theorem sc_Eater_power : FnScope ["self", "times"] ["self", "times"] (defScope s_Eater_power) := ⟨rfl, rfl, rfl, by decide +kernel, rfl, by decide +kernel, by decide +kernel⟩
abbrev s_written : Stmt := topS 42
theorem sc_written : FnScope ["subject"] ["subject"] (defScope s_written) := ⟨rfl, rfl, rfl, by decide +kernel, rfl, by decide +kernel, by decide +kernel⟩
abbrev s_read_word : Stmt := topS 43
theorem sc_read_word : FnScope ["tags", "text", "most", "word", "tag"] ["tags", "text", "most"] (defScope s_read_word) := ⟨rfl, rfl, rfl, by decide +kernel, rfl, by decide +kernel, by decide +kernel⟩
abbrev s_is_numeral : Stmt := topS 44
theorem sc_is_numeral : FnScope ["text", "sign"] ["text"] (defScope s_is_numeral) := ⟨rfl, rfl, rfl, by decide +kernel, rfl, by decide +kernel, by decide +kernel⟩
abbrev s_read_way : Stmt := topS 45
theorem sc_read_way : FnScope ["tags", "text", "tag", "_", "digits"] ["tags", "text"] (defScope s_read_way) := ⟨rfl, rfl, rfl, by decide +kernel, rfl, by decide +kernel, by decide +kernel⟩
abbrev s_read_ways : Stmt := topS 46
theorem sc_read_ways : FnScope ["tags", "text", "found", "last", "part", "way", "digits"] ["tags", "text"] (defScope s_read_ways) := ⟨rfl, rfl, rfl, by decide +kernel, rfl, by decide +kernel, by decide +kernel⟩
abbrev s_read_line : Stmt := topS 47
theorem sc_read_line : FnScope ["tags", "line", "word_text", "colon", "ways_text", "word", "found"] ["tags", "line"] (defScope s_read_line) := ⟨rfl, rfl, rfl, by decide +kernel, rfl, by decide +kernel, by decide +kernel⟩
abbrev s_ways_among : Stmt := topS 48
theorem sc_ways_among : FnScope ["tags", "found", "many", "ways", "place", "digits"] ["tags", "found", "many"] (defScope s_ways_among) := ⟨rfl, rfl, rfl, by decide +kernel, rfl, by decide +kernel, by decide +kernel⟩
abbrev s_eater_text : Stmt := topS 49
theorem sc_eater_text : FnScope ["eater", "lines", "word", "ways", "told", "tag", "way"] ["eater"] (defScope s_eater_text) := ⟨rfl, rfl, rfl, by decide +kernel, rfl, by decide +kernel, by decide +kernel⟩
abbrev s_read_eater : Stmt := topS 50
theorem sc_read_eater : FnScope ["tags", "text", "lines", "told", "at", "line", "standings", "word", "found", "_", "ways"] ["tags", "text"] (defScope s_read_eater) := ⟨rfl, rfl, rfl, by decide +kernel, rfl, by decide +kernel, by decide +kernel⟩
abbrev s__law_mixed : Stmt := topS 52
theorem sc__law_mixed : FnScope ["cell", "k", "number"] ["cell", "k"] (defScope s__law_mixed) := ⟨rfl, rfl, rfl, by decide +kernel, rfl, by decide +kernel, by decide +kernel⟩
abbrev s__law_pile : Stmt := topS 53
theorem sc__law_pile : FnScope ["script", "k", "cell", "great"] ["script", "k"] (defScope s__law_pile) := ⟨rfl, rfl, rfl, by decide +kernel, rfl, by decide +kernel, by decide +kernel⟩
abbrev s__law_take : Stmt := topS 54
theorem sc__law_take : FnScope ["pile", "many", "digit"] ["pile", "many"] (defScope s__law_take) := ⟨rfl, rfl, rfl, by decide +kernel, rfl, by decide +kernel, by decide +kernel⟩
abbrev s__law_order : Stmt := topS 55
theorem sc__law_order : FnScope ["pile", "many", "left", "found"] ["pile", "many"] (defScope s__law_order) := ⟨rfl, rfl, rfl, by decide +kernel, rfl, by decide +kernel, by decide +kernel⟩
abbrev s__law_tags : Stmt := topS 56
theorem sc__law_tags : FnScope ["pile", "many", "letters", "plain", "at", "stem", "shift", "pace", "k"] ["pile", "many"] (defScope s__law_tags) := ⟨rfl, rfl, rfl, by decide +kernel, rfl, by decide +kernel, by decide +kernel⟩
abbrev s__law_word : Stmt := topS 57
theorem sc__law_word : FnScope ["pile", "tags", "most", "turn"] ["pile", "tags", "most"] (defScope s__law_word) := ⟨rfl, rfl, rfl, by decide +kernel, rfl, by decide +kernel, by decide +kernel⟩
abbrev s__law_standings : Stmt := topS 58
theorem sc__law_standings : FnScope ["pile", "tags", "most", "long", "many", "found", "k", "ways", "tag"] ["pile", "tags", "most", "long"] (defScope s__law_standings) := ⟨rfl, rfl, rfl, by decide +kernel, rfl, by decide +kernel, by decide +kernel⟩
abbrev s__law_eaten : Stmt := topS 59
theorem sc__law_eaten : FnScope ["tags", "standings", "subject", "place", "count"] ["tags", "standings", "subject"] (defScope s__law_eaten) := ⟨rfl, rfl, rfl, by decide +kernel, rfl, by decide +kernel, by decide +kernel⟩
abbrev s__law_row_done : Stmt := topS 60
theorem sc__law_row_done : FnScope ["tags", "every", "subject", "row", "found", "number"] ["tags", "every", "subject", "row"] (defScope s__law_row_done) := ⟨rfl, rfl, rfl, by decide +kernel, rfl, by decide +kernel, by decide +kernel⟩
abbrev s__law_written : Stmt := topS 61
theorem sc__law_written : FnScope ["tags", "standings", "lines", "word", "ways", "line", "tag", "way"] ["tags", "standings"] (defScope s__law_written) := ⟨rfl, rfl, rfl, by decide +kernel, rfl, by decide +kernel, by decide +kernel⟩
abbrev s__law_number : Stmt := topS 62
theorem sc__law_number : FnScope ["text", "sign"] ["text"] (defScope s__law_number) := ⟨rfl, rfl, rfl, by decide +kernel, rfl, by decide +kernel, by decide +kernel⟩
abbrev s__law_word_of : Stmt := topS 63
theorem sc__law_word_of : FnScope ["tags", "text", "words", "word"] ["tags", "text"] (defScope s__law_word_of) := ⟨rfl, rfl, rfl, by decide +kernel, rfl, by decide +kernel, by decide +kernel⟩
abbrev s__law_line_of : Stmt := topS 64
theorem sc__law_line_of : FnScope ["tags", "line", "head", "rest", "word", "ways", "last", "part", "halves", "tag"] ["tags", "line"] (defScope s__law_line_of) := ⟨rfl, rfl, rfl, by decide +kernel, rfl, by decide +kernel, by decide +kernel⟩
abbrev s__law_due : Stmt := topS 65
theorem sc__law_due : FnScope ["tags", "text", "found", "k", "line", "standing", "far", "word", "ways", "way"] ["tags", "text"] (defScope s__law_due) := ⟨rfl, rfl, rfl, by decide +kernel, rfl, by decide +kernel, by decide +kernel⟩
abbrev s__law_told : Stmt := topS 66
theorem sc__law_told : FnScope ["tags", "text", "error", "found", "e"] ["tags", "text"] (defScope s__law_told) := ⟨rfl, rfl, rfl, by decide +kernel, rfl, by decide +kernel, by decide +kernel⟩
abbrev s__law_bent : Stmt := topS 67
theorem sc__law_bent : FnScope ["pile", "text", "tags", "at", "sign", "lines", "to", "menu"] ["pile", "text", "tags"] (defScope s__law_bent) := ⟨rfl, rfl, rfl, by decide +kernel, rfl, by decide +kernel, by decide +kernel⟩
abbrev s__law_great_right : Stmt := topS 68
theorem sc__law_great_right : FnScope ["pile", "tags", "many", "found", "k", "ways", "j", "great"] ["pile", "tags"] (defScope s__law_great_right) := ⟨rfl, rfl, rfl, by decide +kernel, rfl, by decide +kernel, by decide +kernel⟩
abbrev s__law_tags_right : Stmt := topS 69
theorem sc__law_tags_right : FnScope ["pile", "tags", "text", "wrong", "due", "some", "lines", "at", "odd", "sign", "spoilt"] ["pile", "tags", "text"] (defScope s__law_tags_right) := ⟨rfl, rfl, rfl, by decide +kernel, rfl, by decide +kernel, by decide +kernel⟩
abbrev s_law : Stmt := topS 70
theorem sc_law : FnScope ["script", "at", "pile", "tags", "standings", "eater", "text", "plain", "bent_text", "many", "long", "texts", "some"] ["script"] (defScope s_law) := ⟨rfl, rfl, rfl, by decide +kernel, rfl, by decide +kernel, by decide +kernel⟩
structure TX (K : PySem.W.Frag) (mg : Str → Option Value) : Type where
  n_ValueError : mg "ValueError" = none
  n_abs : mg "abs" = none
  n_all : mg "all" = none
  n_any : mg "any" = none
  n_bool : mg "bool" = none
  n_enumerate : mg "enumerate" = none
  n_int : mg "int" = none
  n_isinstance : mg "isinstance" = none
  n_len : mg "len" = none
  n_list : mg "list" = none
  n_max : mg "max" = none
  n_range : mg "range" = none
  n_sorted : mg "sorted" = none
  n_str : mg "str" = none
  n_tuple : mg "tuple" = none
  n_zip : mg "zip" = none
  c_LETTERS : ∃ u, mg "LETTERS" = some u ∧ RelV (.str "abcdefghijklmnopqrstuvwxyz") u
  c_MOST_LETTERS : ∃ u, mg "MOST_LETTERS" = some u ∧ RelV (.int 8) u
  c_MOST_TAGS : ∃ u, mg "MOST_TAGS" = some u ∧ RelV (.int 6) u
  c_MOST_STANDINGS : ∃ u, mg "MOST_STANDINGS" = some u ∧ RelV (.int 30) u
  c_LONGEST_WORD : ∃ u, mg "LONGEST_WORD" = some u ∧ RelV (.int 8) u
  c_LONGEST_SUBJECT : ∃ u, mg "LONGEST_SUBJECT" = some u ∧ RelV (.int 200) u
  c_NO_TAGS : ∃ u, mg "NO_TAGS" = some u ∧ RelV (.str "-") u
  c_DIGITS : ∃ u, mg "DIGITS" = some u ∧ RelV (.str "0123456789") u
  c_MOST_DIGITS : ∃ u, mg "MOST_DIGITS" = some u ∧ RelV (.int 2) u
  d__wall : QB.TopAt K mg "_wall" s__wall ["k"]
  d_is_number : QB.TopAt K mg "is_number" s_is_number ["x", "least", "most"]
  d_is_list : QB.TopAt K mg "is_list" s_is_list ["x", "least", "most"]
  d_is_name : QB.TopAt K mg "is_name" s_is_name ["x"]
  d_is_tag : QB.TopAt K mg "is_tag" s_is_tag ["tags", "x"]
  d_is_subject : QB.TopAt K mg "is_subject" s_is_subject ["tags", "x"]
  d_is_standing : QB.TopAt K mg "is_standing" s_is_standing ["tags", "many", "x"]
  d_check_tags : QB.TopAt K mg "check_tags" s_check_tags ["tags"]
  d_check_word : QB.TopAt K mg "check_word" s_check_word ["tags", "word", "most"]
  d_check_standings : QB.TopAt K mg "check_standings" s_check_standings ["tags", "standings"]
  d_no_ways : QB.TopAt K mg "no_ways" s_no_ways ["tags"]
  d_walked : QB.TopAt K mg "walked" s_walked ["tags", "standings", "word"]
  d_made : QB.TopAt K mg "made" s_made ["tags", "standings", "subject"]
  d_is_settled_at : QB.TopAt K mg "is_settled_at" s_is_settled_at ["standing"]
  d_is_made_at : QB.TopAt K mg "is_made_at" s_is_made_at ["tags", "standing", "subject"]
  d_copied : QB.TopAt K mg "copied" s_copied ["standings"]
  d_without_needless_ways : QB.TopAt K mg "without_needless_ways" s_without_needless_ways ["tags", "standings"]
  d_numbered : QB.TopAt K mg "numbered" s_numbered ["marks"]
  d_parted : QB.TopAt K mg "parted" s_parted ["classes", "standings"]
  d_alike_classes : QB.TopAt K mg "alike_classes" s_alike_classes ["standings"]
  d_in_order_met : QB.TopAt K mg "in_order_met" s_in_order_met ["standings", "classes"]
  d_least_form : QB.TopAt K mg "least_form" s_least_form ["tags", "standings"]
  d_written : QB.TopAt K mg "written" s_written ["subject"]
  d_read_word : QB.TopAt K mg "read_word" s_read_word ["tags", "text", "most"]
  d_is_numeral : QB.TopAt K mg "is_numeral" s_is_numeral ["text"]
  d_read_way : QB.TopAt K mg "read_way" s_read_way ["tags", "text"]
  d_read_ways : QB.TopAt K mg "read_ways" s_read_ways ["tags", "text"]
  d_read_line : QB.TopAt K mg "read_line" s_read_line ["tags", "line"]
  d_ways_among : QB.TopAt K mg "ways_among" s_ways_among ["tags", "found", "many"]
  d_eater_text : QB.TopAt K mg "eater_text" s_eater_text ["eater"]
  d_read_eater : QB.TopAt K mg "read_eater" s_read_eater ["tags", "text"]
  d__law_mixed : QB.TopAt K mg "_law_mixed" s__law_mixed ["cell", "k"]
  d__law_pile : QB.TopAt K mg "_law_pile" s__law_pile ["script", "k"]
  d__law_take : QB.TopAt K mg "_law_take" s__law_take ["pile", "many"]
  d__law_order : QB.TopAt K mg "_law_order" s__law_order ["pile", "many"]
  d__law_tags : QB.TopAt K mg "_law_tags" s__law_tags ["pile", "many"]
  d__law_word : QB.TopAt K mg "_law_word" s__law_word ["pile", "tags", "most"]
  d__law_standings : QB.TopAt K mg "_law_standings" s__law_standings ["pile", "tags", "most", "long"]
  d__law_eaten : QB.TopAt K mg "_law_eaten" s__law_eaten ["tags", "standings", "subject"]
  d__law_row_done : QB.TopAt K mg "_law_row_done" s__law_row_done ["tags", "every", "subject", "row"]
  d__law_written : QB.TopAt K mg "_law_written" s__law_written ["tags", "standings"]
  d__law_number : QB.TopAt K mg "_law_number" s__law_number ["text"]
  d__law_word_of : QB.TopAt K mg "_law_word_of" s__law_word_of ["tags", "text"]
  d__law_line_of : QB.TopAt K mg "_law_line_of" s__law_line_of ["tags", "line"]
  d__law_due : QB.TopAt K mg "_law_due" s__law_due ["tags", "text"]
  d__law_told : QB.TopAt K mg "_law_told" s__law_told ["tags", "text"]
  d__law_bent : QB.TopAt K mg "_law_bent" s__law_bent ["pile", "text", "tags"]
  d__law_great_right : QB.TopAt K mg "_law_great_right" s__law_great_right ["pile", "tags"]
  d__law_tags_right : QB.TopAt K mg "_law_tags_right" s__law_tags_right ["pile", "tags", "text"]
  d_law : QB.TopAt K mg "law" s_law ["script"]
  lam_c : Addr
  lam_P : Addr
  lam_F : QB.FunC K "without_needless_ways" "without_needless_ways" s_without_needless_ways d_without_needless_ways.a d_without_needless_ways.fd lam_c
  e_TagError : Addr
  me_TagError : mg "TagError" = some (.ref e_TagError)
  e_InvalidTags : Addr
  me_InvalidTags : mg "InvalidTags" = some (.ref e_InvalidTags)
  d_InvalidTags___init__ : QB.DefAt K "__init__" "InvalidTags.__init__" s_InvalidTags___init__ ["self", "index"]
  xt_InvalidTags : QX.ExcT K e_InvalidTags d_InvalidTags___init__.a "index"
  e_InvalidSubject : Addr
  me_InvalidSubject : mg "InvalidSubject" = some (.ref e_InvalidSubject)
  d_InvalidSubject___init__ : QB.DefAt K "__init__" "InvalidSubject.__init__" s_InvalidSubject___init__ ["self", "index"]
  xt_InvalidSubject : QX.ExcT K e_InvalidSubject d_InvalidSubject___init__.a "index"
  e_InvalidEater : Addr
  me_InvalidEater : mg "InvalidEater" = some (.ref e_InvalidEater)
  d_InvalidEater___init__ : QB.DefAt K "__init__" "InvalidEater.__init__" s_InvalidEater___init__ ["self", "index"]
  xt_InvalidEater : QX.ExcT K e_InvalidEater d_InvalidEater___init__.a "index"
  e_InvalidText : Addr
  me_InvalidText : mg "InvalidText" = some (.ref e_InvalidText)
  d_InvalidText___init__ : QB.DefAt K "__init__" "InvalidText.__init__" s_InvalidText___init__ ["self", "line"]
  xt_InvalidText : QX.ExcT K e_InvalidText d_InvalidText___init__.a "line"
  ex_InvalidTags : PySem.W.exmOne K (.ref e_InvalidTags) (.ref e_TagError) = some true
  kv_InvalidTags : PySem.W.kitOne K (.ref e_InvalidTags) (.type "ValueError") = some true
  ki_InvalidTags_TagError : PySem.W.kitOne K (.ref e_InvalidTags) (.ref e_TagError) = some true
  ki_InvalidTags_InvalidTags : PySem.W.kitOne K (.ref e_InvalidTags) (.ref e_InvalidTags) = some true
  ki_InvalidTags_InvalidSubject : PySem.W.kitOne K (.ref e_InvalidTags) (.ref e_InvalidSubject) = some false
  ki_InvalidTags_InvalidEater : PySem.W.kitOne K (.ref e_InvalidTags) (.ref e_InvalidEater) = some false
  ki_InvalidTags_InvalidText : PySem.W.kitOne K (.ref e_InvalidTags) (.ref e_InvalidText) = some false
  ex_InvalidSubject : PySem.W.exmOne K (.ref e_InvalidSubject) (.ref e_TagError) = some true
  kv_InvalidSubject : PySem.W.kitOne K (.ref e_InvalidSubject) (.type "ValueError") = some true
  ki_InvalidSubject_TagError : PySem.W.kitOne K (.ref e_InvalidSubject) (.ref e_TagError) = some true
  ki_InvalidSubject_InvalidTags : PySem.W.kitOne K (.ref e_InvalidSubject) (.ref e_InvalidTags) = some false
  ki_InvalidSubject_InvalidSubject : PySem.W.kitOne K (.ref e_InvalidSubject) (.ref e_InvalidSubject) = some true
  ki_InvalidSubject_InvalidEater : PySem.W.kitOne K (.ref e_InvalidSubject) (.ref e_InvalidEater) = some false
  ki_InvalidSubject_InvalidText : PySem.W.kitOne K (.ref e_InvalidSubject) (.ref e_InvalidText) = some false
  ex_InvalidEater : PySem.W.exmOne K (.ref e_InvalidEater) (.ref e_TagError) = some true
  kv_InvalidEater : PySem.W.kitOne K (.ref e_InvalidEater) (.type "ValueError") = some true
  ki_InvalidEater_TagError : PySem.W.kitOne K (.ref e_InvalidEater) (.ref e_TagError) = some true
  ki_InvalidEater_InvalidTags : PySem.W.kitOne K (.ref e_InvalidEater) (.ref e_InvalidTags) = some false
  ki_InvalidEater_InvalidSubject : PySem.W.kitOne K (.ref e_InvalidEater) (.ref e_InvalidSubject) = some false
  ki_InvalidEater_InvalidEater : PySem.W.kitOne K (.ref e_InvalidEater) (.ref e_InvalidEater) = some true
  ki_InvalidEater_InvalidText : PySem.W.kitOne K (.ref e_InvalidEater) (.ref e_InvalidText) = some false
  ex_InvalidText : PySem.W.exmOne K (.ref e_InvalidText) (.ref e_TagError) = some true
  kv_InvalidText : PySem.W.kitOne K (.ref e_InvalidText) (.type "ValueError") = some true
  ki_InvalidText_TagError : PySem.W.kitOne K (.ref e_InvalidText) (.ref e_TagError) = some true
  ki_InvalidText_InvalidTags : PySem.W.kitOne K (.ref e_InvalidText) (.ref e_InvalidTags) = some false
  ki_InvalidText_InvalidSubject : PySem.W.kitOne K (.ref e_InvalidText) (.ref e_InvalidSubject) = some false
  ki_InvalidText_InvalidEater : PySem.W.kitOne K (.ref e_InvalidText) (.ref e_InvalidEater) = some false
  ki_InvalidText_InvalidText : PySem.W.kitOne K (.ref e_InvalidText) (.ref e_InvalidText) = some true
  c_Eater : Addr
  m_Eater : mg "Eater" = some (.ref c_Eater)
  cl_Eater : Cls K c_Eater
  oc_Eater : QO.OwnC K c_Eater
  d_Eater___init__ : QB.DefAt K "__init__" "Eater.__init__" s_Eater___init__ ["self", "tags", "standings"]
  d_Eater___len__ : QB.DefAt K "__len__" "Eater.__len__" s_Eater___len__ ["self"]
  h_Eater___len__ : Meth K c_Eater "__len__" d_Eater___len__.a
  d_Eater___eq__ : QB.DefAt K "__eq__" "Eater.__eq__" s_Eater___eq__ ["self", "other"]
  h_Eater___eq__ : Meth K c_Eater "__eq__" d_Eater___eq__.a
  d_Eater___contains__ : QB.DefAt K "__contains__" "Eater.__contains__" s_Eater___contains__ ["self", "x"]
  h_Eater___contains__ : Meth K c_Eater "__contains__" d_Eater___contains__.a
  d_Eater_tags : QB.DefAt K "tags" "Eater.tags" s_Eater_tags ["self"]
  h_Eater_tags : Meth K c_Eater "tags" d_Eater_tags.a
  d_Eater_standings : QB.DefAt K "standings" "Eater.standings" s_Eater_standings ["self"]
  h_Eater_standings : Meth K c_Eater "standings" d_Eater_standings.a
  d_Eater_on : QB.DefAt K "on" "Eater.on" s_Eater_on ["self", "subject"]
  h_Eater_on : Meth K c_Eater "on" d_Eater_on.a
  d_Eater_settled : QB.DefAt K "settled" "Eater.settled" s_Eater_settled ["self", "word"]
  h_Eater_settled : Meth K c_Eater "settled" d_Eater_settled.a
  d_Eater_then : QB.DefAt K "then" "Eater.then" s_Eater_then ["self", "other"]
  h_Eater_then : Meth K c_Eater "then" d_Eater_then.a
  d_Eater_power : QB.DefAt K "power" "Eater.power" s_Eater_power ["self", "times"]
  h_Eater_power : Meth K c_Eater "power" d_Eater_power.a
  mk_Eater : Mk K c_Eater d_Eater___init__.a
  na_Eater__standings : NoAttr K c_Eater "_standings"
  na_Eater__tags : NoAttr K c_Eater "_tags"
section
variable {P : Program} {w : World} {K : PySem.W.Frag} {mg : Str → Option Value} {base : Heap}

def spWalked (K : PySem.W.Frag) : Sp := fun vs H Q _ => ∃ (a b c : Addr) (tags : List Str) (F : Form) (wd : Word), vs = [.ref a, .ref b, .ref c] ∧ WordAt H a tags ∧ FormAt H b F ∧ WordAt H c wd ∧ Good tags F ∧ (∀ t ∈ wd, t ∈ tags) ∧ wd.length ≤ 100000 ∧
  ∀ (p : Addr) (H' : Hp), Same H H' → H p = none → H' p = some (.tup [.int ((walk tags F wd).1 : Int), .int ((walk tags F wd).2 : Int)]) → Q (.ref p) H'
theorem ok_walked (X : TX K mg) : FnOk P w K mg base CX0 1 X.d_walked.a X.d_walked.fd ["tags", "standings", "word"] (spWalked K) := by
  have nd := sc_walked.nd
  refine X.d_walked.F.ok sc_walked (fun vs H Q E h => ?_) (fun cdv A outer s H vs Q E hr h => ?_)
  · obtain ⟨a, b, c, tags, F, wd, rfl, _⟩ := h
    rfl
  · obtain ⟨a, b, c, tags, F, wd, rfl, hT, hF, hw, g, hin, hz, k⟩ := h
    refine ⟨_, (pss_cons (ps_set (i := 3) nd rfl (Or.inl rfl) pe_int) (pss_cons (ps_for PassesOwn.never rfl (QB.pi_enumK K (by rfl) X.n_enumerate (pa_cons (pv 2) pa_nil)) (pg_tup (by rfl) (pgs_cons (pg_name (i := 4) nd rfl (Or.inl rfl)) (pgs_cons (pg_name (i := 5) nd rfl (Or.inl rfl)) (pgs_nil)))) (pss_cons (ps_set (i := 6) nd rfl (Or.inl rfl) (pe_ix (QB.ix_listK K) (pe_ix (QB.ix_tupK K) (pe_ix (QB.ix_listK K) (pv 1) (pv 3) (fun _ _ => rfl)) pe_int (fun _ _ => rfl)) (QB.pe_bmK K PySem.F.plainAttrs_list PySem.F.slot_list_index PySem.F.type_list_index (QB.mt_indexK K) (pv 0) (pa_cons (pv 5) pa_nil)) (fun _ _ => rfl))) (pss_cons (ps_if (pt_cmpR op_isN (pv 6) pe_non (nomark _)) (pss_one (ps_ret (pe_tup (pa_cons (pv 3) (pa_cons (pv 4) pa_nil))))) pss_nil) (pss_one (ps_set (i := 3) nd rfl (Or.inl rfl) (pv 6)))))) (pss_one (ps_ret (pe_tup (pa_cons (pv 3) (pa_cons (pe_callB (QB.call_lenK K) (by rfl) X.n_len PySem.boot_len (pa_cons (pv 2) pa_nil)) pa_nil))))))), ?_⟩
    try dsimp only [Cx.nox, Cx.wish, cxOf]
    refine ⟨_, rfl, _, _, rfl, SqL.of hw, ?_⟩
    refine for_it (walk_enumW (K := K) (a := c) (w := wd)) (fun i σ H' => ∃ (at_ : Nat) (v4 v5 v6 : Option V), σ = [some (.ref a), some (.ref b), some (.ref c), some (.int (at_ : Int)), v4, v5, v6] ∧ Same H H' ∧ at_ < F.length ∧ walkFrom tags F at_ i (wd.drop i) = walk tags F wd)
      ⟨0, none, none, none, rfl, Same.refl H, g.pos, rfl⟩ (fun i σ H' _ ⟨_, _, _, _, _, s1, _⟩ => Same.word s1 hw) ?_ ?_
    · rintro i v σ H1 H2 hi ⟨at_, v4, v5, v6, rfl, s1, hat, hwk⟩ ⟨tp, x, hx, ntp, rfl, rfl⟩
      have s2 : Same H (upd H1 tp (.tup [.int (i : Int), .str x])) := Same.new s1 ntp
      have eF : F[at_]? = some F[at_] := by simp [hat]
      have hxt : x ∈ tags := hin x (List.mem_of_getElem? hx)
      obtain ⟨vs, t, p1, p2, f1, f2, f3, f4, f5, f6⟩ := (Same.form s2 hF).at eF
      have ed : wd.drop i = x :: wd.drop (i + 1) := (List.drop_eq_getElem_cons hi).trans (by rw [List.getElem?_eq_getElem hi] at hx; rw [Option.some.inj hx])
      rw [ed] at hwk
      unfold walkFrom at hwk
      rw [wayAt_of eF] at hwk
      refine ⟨tp, _, rfl, SqT.of upd_same, rfl, _, _, rfl, _, _, rfl, rfl, ?_⟩
      refine ⟨_, rfl, _, rfl, _, _, _, _, rfl, rfl, SqL.of f1, atI_nat f3, _, _, _, _, rfl, rfl, SqT.of f4, rfl, ?_⟩
      refine ⟨_, rfl, .inl ⟨rfl, _, SqL.of (Same.word s2 hT)⟩, _, rfl, ?_⟩
      dsimp only [tNil]
      refine index_word (Same.word s2 hT) hxt ?_
      refine ⟨_, _, _, _, rfl, rfl, SqL.of f6, atI_nat (vWs_get (g.way eF hxt)), ?_⟩
      refine ⟨_, rfl, rfl, _, rfl, ?_⟩
      cases e : way tags F[at_] x with
      | none =>
        rw [e] at hwk
        refine iteT ?_
        refine ⟨_, rfl, _, rfl, (by show 2 ≤ sizeLine; decide), fun p hp => ?_⟩
        refine k p _ (Same.new s2 hp) (Same.free s2 hp) ?_
        rw [← hwk]
        exact upd_same
      | some n =>
        rw [e] at hwk
        refine iteF ?_
        exact ⟨_, rfl, n, _, _, _, rfl, s2, g.wayLt eF hxt e, hwk⟩
    · rintro σ H1 ⟨at_, v4, v5, v6, rfl, s1, hat, hwk⟩
      rw [List.drop_length] at hwk
      refine ⟨_, rfl, _, rfl, _, _, rfl, .inl (SqL.of (Same.word s1 hw)), (by show 2 ≤ sizeLine; decide), fun p hp => ?_⟩
      refine k p _ (Same.new s1 hp) (Same.free s1 hp) ?_
      rw [← hwk, vS_len]
      exact upd_same

def spMade : Sp := fun vs H Q _ => ∃ (a b c : Addr) (tags : List Str) (F : Form) (wd : Word), vs = [.ref a, .ref b, .ref c] ∧ WordAt H a tags ∧ FormAt H b F ∧ WordAt H c wd ∧ Good tags F ∧ (∀ t ∈ wd, t ∈ tags) ∧ wd.length ≤ 10000 ∧ (∀ s ∈ F, s.1.length ≤ 10000) ∧
  ∀ (p : Addr) (H' : Hp), Same H H' → H p = none → H' p = some (.lst (vS (make tags F wd))) → Q (.ref p) H'
theorem ok_made (X : TX K mg) : FnOk P w K mg base CX0 2 X.d_made.a X.d_made.fd ["tags", "standings", "subject"] spMade := by
  have nd := sc_made.nd
  refine X.d_made.F.ok sc_made (fun vs H Q E h => ?_) (fun cdv A outer s H vs Q E hr h => ?_)
  · obtain ⟨a, b, c, tags, F, wd, rfl, _⟩ := h
    rfl
  · obtain ⟨a, b, c, tags, F, wd, rfl, hT, hF, hw, g, hin, hz, hz2, k⟩ := h
    refine ⟨_, (pss_cons (ps_asg (pe_call (ok_walked X) (hr.mono (by decide)) rfl X.d_walked.mg X.d_walked.F.kp X.d_walked.b .nil pass0 (pa_cons (pv 0) (pa_cons (pv 1) (pa_cons (pv 2) pa_nil)))) (pg_tup (by rfl) (pgs_cons (pg_name (i := 3) nd rfl (Or.inl rfl)) (pgs_cons (pg_name (i := 4) nd rfl (Or.inl rfl)) (pgs_nil))))) (pss_one (ps_ret (pe_op op_cat (pe_ix (QB.ix_tupK K) (pe_ix (QB.ix_listK K) (pv 1) (pv 3) (fun _ _ => rfl)) pe_int (fun _ _ => rfl)) (pe_slice (QB.sl_listK K) (pv 2) (po_some (pv 4)) po_none))))), ?_⟩
    try dsimp only [Cx.nox, Cx.wish, cxOf]
    refine ⟨_, rfl, _, rfl, _, rfl, ?_⟩
    refine ⟨a, b, c, tags, F, wd, rfl, hT, hF, hw, g, hin, Nat.le_trans hz (by decide), fun tp H1 s1 ntp h1 => ?_⟩
    refine ⟨tp, _, rfl, SqT.of h1, rfl, _, _, rfl, _, _, rfl, rfl, ?_⟩
    have hwl := (walk_lt g hin).1
    have eF : F[(walk tags F wd).1]? = some F[(walk tags F wd).1] := List.getElem?_eq_getElem hwl
    obtain ⟨vs, t, p1, p2, f1, f2, f3, f4, f5, f6⟩ := (Same.form s1 hF).at eF
    refine ⟨_, rfl, _, rfl, _, _, _, _, rfl, rfl, SqL.of f1, atI_nat f3, _, _, _, _, rfl, rfl, SqT.of f4, rfl, ?_⟩
    refine ⟨_, rfl, _, rfl, _, rfl, _, _, rfl, SqL.of (Same.word s1 hw), fun q hq => ?_⟩
    rw [cut_drop, vS_drop]
    refine ⟨_, _, _, _, rfl, rfl, Eq.trans (upd_ne (ne_of_none f5 hq)) f5, upd_same, ?_, fun p hp => ?_⟩
    · have z1 := hz2 _ (mem_of eF)
      have z2 : (wd.drop (walk tags F wd).2).length ≤ wd.length := by rw [List.length_drop]; omega
      rw [vS_len, vS_len]
      exact sz_le (by omega)
    · have s2 : Same H (upd H1 q (.lst (vS (wd.drop (walk tags F wd).2)))) := Same.new s1 hq
      refine k p _ (Same.new s2 hp) (Same.free s2 hp) ?_
      rw [upd_same, vS_append]
      unfold make
      rw [wordOf_of eF]

def spSettledAt : Sp := fun vs H Q _ => ∃ (t a b : Addr) (ws : Ways), vs = [.ref t] ∧ H t = some (.tup [.ref a, .ref b]) ∧ WaysAt H b ws ∧ ws.length ≤ 1000 ∧ ∀ H', Same H H' → Q (.bl (ws.all Option.isNone)) H'
theorem ok_is_settled_at (X : TX K mg) : FnOk P w K mg base CX0 1 X.d_is_settled_at.a X.d_is_settled_at.fd ["standing"] spSettledAt := by
  have nd := sc_is_settled_at.nd
  refine X.d_is_settled_at.F.ok sc_is_settled_at (fun vs H Q E h => ?_) (fun cdv A outer s H vs Q E hr h => ?_)
  · obtain ⟨t, a, b, ws, rfl, _⟩ := h
    rfl
  · obtain ⟨t, a, b, ws, rfl, ht, hw, hz, k⟩ := h
    refine ⟨_, (pss_one (ps_ret (pe_callB (QB.cr_allK K rfl) (by rfl) X.n_all QB.bo_all (pa_cons (pe_lc (own := [("way", 1)]) (g := gName 1) (tt := tYes) rfl nd (QB.pi_listK K (pe_ix (QB.ix_tupK K) (pv 0) pe_int (fun _ _ => rfl))) (blkOk_by (N := ["standing", "way"]) (sc := defScope s_is_settled_at) (by decide +kernel)) (fun _ _ _ _ _ => pg_name (i := 1) nd rfl (Or.inl rfl)) (fun _ _ _ _ _ => pts_nil) (fun _ _ _ _ _ => (pe_cmpR op_isN (pv 1) pe_non (nomark _)))) pa_nil)))), ?_⟩
    try dsimp only [Cx.nox, Cx.wish, cxOf]
    refine ⟨_, rfl, _, _, _, _, rfl, rfl, SqT.of ht, rfl, _, rfl, ⟨_, SqL.of hw⟩, fun D hD => ?_⟩
    refine lc_map (walk_listWs (K := K) (a := b) (ws := ws)) hD (by omega) (fun H1 s1 => Same.ways s1 hw) (fun i => .bl ((ws[i]?).join.isNone)) ?_ ?_
    · rintro i x H1 H2 kk hi s1 ⟨y, hy, rfl, rfl⟩ hk
      refine ⟨rfl, _, rfl, rfl, ?_⟩
      have e := hk H2 (Same.refl H2)
      rw [hy] at e
      rw [vW_is]
      exact e
    · intro H1 s1 e
      rw [range_map_get _ ws (fun x => .bl x.isNone) (fun i x hx => by rw [hx]; rfl)] at e
      refine ⟨_, ws.map Option.isNone, rfl, SqL.of (by rw [e, List.map_map]; rfl), ?_⟩
      have e2 := k H1 s1
      rw [List.all_map]
      exact e2
end
end Law
end

section
set_option Elab.async false
set_option linter.all false
set_option maxRecDepth 100000
set_option maxHeartbeats 4000000
namespace Law
open PySem PySem.Spec PyProof.Rows L2 LamX QB QM
section
variable {P : Program} {w : World} {K : PySem.W.Frag} {mg : Str → Option Value} {base : Heap}
def spCopied : Sp := fun vs H Q _ => ∃ (b : Addr) (F : Form), vs = [.ref b] ∧ FormAt H b F ∧ F.length ≤ 10000 ∧ ∀ (p : Addr) (L : List Tri) (H' : Hp), Same H H' → NewF H H' p L F → Q (.ref p) H'
theorem ok_copied (X : TX K mg) : FnOk P w K mg base CX0 1 X.d_copied.a X.d_copied.fd ["standings"] spCopied := by
  have nd := sc_copied.nd
  refine X.d_copied.F.ok sc_copied (fun vs H Q E h => ?_) (fun cdv A outer s H vs Q E hr h => ?_)
  · obtain ⟨b, F, rfl, _⟩ := h
    rfl
  · obtain ⟨b, F, rfl, hF, hz, k⟩ := h
    refine ⟨_, (pss_one (ps_ret (pe_lc (own := [("word", 1), ("ways", 2)]) (g := gTup K 2 (gCons (gName 1) (gCons (gName 2) (gNil)))) (tt := tYes) rfl nd (QB.pi_listK K (pv 0)) (blkOk_by (N := ["standings", "word", "ways"]) (sc := defScope s_copied) (by decide +kernel)) (fun _ _ _ _ _ => pg_tup (by rfl) (pgs_cons (pg_name (i := 1) nd rfl (Or.inl rfl)) (pgs_cons (pg_name (i := 2) nd rfl (Or.inl rfl)) (pgs_nil)))) (fun _ _ _ _ _ => pts_nil) (fun _ _ _ _ _ => (pe_tup (pa_cons (pe_callTy (QB.call_listK K) (by rfl) X.n_list QB.bo_list (pa_cons (pv 1) pa_nil)) (pa_cons (pe_callTy (QB.call_listK K) (by rfl) X.n_list QB.bo_list (pa_cons (pv 2) pa_nil)) pa_nil))))))), ?_⟩
    try dsimp only [Cx.nox, Cx.wish, cxOf]
    obtain ⟨vs, hv, hvl⟩ := FormAt.lst hF
    refine ⟨_, rfl, _, rfl, ⟨_, SqL.of hv⟩, fun D hD => ?_⟩
    refine lc_it (walk_listF (K := K) (p := b) (F := F)) (fun i H' => Same H H' ∧ ∃ L, H' D = some (.lst (L.map fun x => V.ref x.1)) ∧ NewL H H' L (F.take i) ∧ D ∉ inner L)
      ⟨same_new hD, [], upd_same, NewL.nil, by simp [inner]⟩ (fun i H' _ h => Same.form h.1 hF) ?_ ?_
    · rintro i x H1 H2 hi ⟨s1, L, hL, nL, oD⟩ ⟨s, t, a, b', hs, rfl, rfl, h1, h2, h3⟩
      refine ⟨t, _, rfl, SqT.of h1, rfl, _, _, rfl, _, _, rfl, rfl, rfl, ?_⟩
      refine ⟨_, rfl, _, _, rfl, .inl (SqL.of h2), fun p1 hp1 => ?_⟩
      have e1 : Same H2 (upd H2 p1 (.lst (vS s.1))) := same_new hp1
      refine ⟨_, rfl, _, _, rfl, .inl (SqL.of (Same.ways e1 h3)), fun p2 hp2 => ?_⟩
      have e2 := Same.new e1 (o := .lst (vWs s.2)) hp2
      refine ⟨by show 2 ≤ sizeLine; decide, fun p3 hp3 => ?_⟩
      have e3 := Same.new e2 (o := .tup [V.ref p1, V.ref p2]) hp3
      have q1 : (upd (upd (upd H2 p1 (.lst (vS s.1))) p2 (.lst (vWs s.2))) p3 (.tup [V.ref p1, V.ref p2])) p1 = some (.lst (vS s.1)) := by
        rw [upd_ne (ne_of_none ((upd_ne (ne_of_none upd_same hp2)).trans upd_same) hp3), upd_ne (ne_of_none upd_same hp2), upd_same]
      have q2 : (upd (upd (upd H2 p1 (.lst (vS s.1))) p2 (.lst (vWs s.2))) p3 (.tup [V.ref p1, V.ref p2])) p2 = some (.lst (vWs s.2)) := by
        rw [upd_ne (ne_of_none upd_same hp3), upd_same]
      have n2 : H2 p2 = none := e1.free hp2
      have n3 : H2 p3 = none := e2.free hp3
      have n12 : p1 ≠ p2 := ne_of_none upd_same hp2
      have hs' : F.take (i + 1) = F.take i ++ [s] := by rw [List.take_succ, hs]; rfl
      refine ⟨_, e3 _ _ hL, ?_, Same.mut (s1.trans e3) hD, L ++ [(p3, p1, p2)], ?_, ?_, ?_⟩
      · rw [List.length_map, nL.len, List.length_take]
        exact sz_lt (by omega)
      · rw [upd_same, List.map_append]
        rfl
      · rw [hs']
        have n := nL.snoc e3 hp1 n2 n12 (t := p3) (s := s) upd_same q1 q2 (.of (s1.free n3)) (.of (s1.free hp1)) (.of (s1.free n2))
        exact n.upd (e3 _ _ hL) (not_inner_snoc oD (ne_of_none hL hp1) (ne_of_none hL n2))
      · exact not_inner_snoc oD (ne_of_none hL hp1) (ne_of_none hL n2)
    · rintro H1 ⟨s1, L, hL, nL, oD⟩
      rw [List.take_length] at nL
      exact k D L H1 s1 ⟨hL, nL, .of hD, oD⟩

/-- a list of tuples that are keys -/
def MarksAt (H : Hp) (a : Addr) (ks : List NestedKey) : Prop := ∃ bs : List Addr, H a = some (.lst (bs.map V.ref)) ∧ Paired (fun b k => QD.NV H k (.ref b) ∧ k.depth ≤ 8) bs ks
def IntsAt (H : Hp) (a : Addr) (ns : List Nat) : Prop := H a = some (.lst (ns.map fun (n : Nat) => V.int (n : Int)))
def spNumbered : Sp := fun vs H Q _ => ∃ (a : Addr) (ks : List NestedKey), vs = [.ref a] ∧ MarksAt H a ks ∧ ks.length ≤ 10000 ∧ ∀ (p : Addr) (H' : Hp), Same H H' → H p = none → IntsAt H' p (QD.numb ks) → Q (.ref p) H'
theorem ok_numbered (X : TX K mg) : FnOk P w K mg base CX0 1 X.d_numbered.a X.d_numbered.fd ["marks"] spNumbered := by
  have nd := sc_numbered.nd
  refine X.d_numbered.F.ok sc_numbered (fun vs H Q E h => ?_) (fun cdv A outer s H vs Q E hr h => ?_)
  · obtain ⟨a, ks, rfl, _⟩ := h
    rfl
  · obtain ⟨a, ks, rfl, ⟨bs, hb, hbs⟩, hz, k⟩ := h
    refine ⟨_, (pss_cons (ps_set (i := 1) nd rfl (Or.inl rfl) QD.pe_newN) (pss_cons (ps_set (i := 2) nd rfl (Or.inl rfl) (pe_lst pa_nil)) (pss_cons (ps_for PassesOwn.never rfl (QB.pi_listK K (pv 0)) (pg_name (i := 3) nd rfl (Or.inl rfl)) (pss_cons (ps_if (pt_cmp (QD.pc_notinN (hu64 hr) (pv 3) (pv 1))) (pss_one (QD.ps_putN (hu64 hr) (pv 1) (pv 3) (pe_callB QD.call_lenN (by rfl) X.n_len PySem.boot_len (pa_cons (pv 1) pa_nil)) rfl)) pss_nil) (pss_one (ps_expr (QB.pe_bmK K PySem.F.plainAttrs_list PySem.F.slot_list_append PySem.F.type_list_append mt_append (pv 2) (pa_cons (QD.pe_getN (hu64 hr) (pv 1) (pv 3) (fun _ _ => rfl)) pa_nil)))))) (pss_one (ps_ret (pv 2)))))), ?_⟩
    try dsimp only [Cx.nox, Cx.wish, cxOf]
    refine fun d H1 hd o1 dn1 _ => ?_
    have s1 : Same H H1 := fun b u e => by rw [o1 b (ne_of_none e hd)]; exact e
    refine ⟨Nat.zero_le _, fun l hl => ?_⟩
    have hl0 : H l = none := s1.free hl
    have ndl : d ≠ l := by
      obtain ⟨_, xs, h1, _⟩ := dn1
      exact ne_of_none h1 hl
    refine ⟨_, rfl, _, rfl, ⟨_, SqL.of (Eq.trans (upd_ne (ne_of_none (s1 _ _ hb) hl)) (s1 _ _ hb))⟩, ?_⟩
    have hlen := Paired.length hbs
    refine for_it (walk_list (K := K) (a := a) (xs := bs.map V.ref)) (fun i σ H' => ∃ (v3 : Option V), σ = [some (.ref a), some (.ref d), some (.ref l), v3] ∧ Same H H' ∧ QD.DN P w H' d (QD.dictFrom 0 (QD.seenOf (ks.take i))) ∧ IntsAt H' l (QD.numb (ks.take i)))
      ⟨none, rfl, Same.new s1 hl, dn1.to (fun b xs e => (upd_ne (ne_of_none e hl)).trans e) (upd_ne ndl), upd_same⟩ (fun i σ H' _ ⟨_, _, s2, _⟩ => SqL.of (s2 _ _ hb)) ?_ ?_
    · rintro i x σ H2 H3 hi ⟨v3, rfl, s2, dn, hI⟩ ⟨rfl, hx⟩
      rw [List.length_map] at hi
      have hbi : bs[i]? = some bs[i] := List.getElem?_eq_getElem hi
      rw [List.getElem?_map, hbi] at hx
      cases hx
      obtain ⟨m, hm, nv, dp⟩ := paired_get' hbs hbi
      have nv3 : QD.NV H3 m (.ref bs[i]) := nv.to fun b xs e => s2 _ _ e
      have htk : ks.take (i + 1) = ks.take i ++ [m] := by rw [List.take_succ, hm]; rfl
      have hsl := QD.seenOf_len (ks.take i)
      rw [List.length_take] at hsl
      have hIl : (QD.numb (ks.take i)).length ≤ 10000 := by rw [QD.numb_len, List.length_take]; omega
      refine ⟨_, rfl, _, rfl, d, bs[i], _, m, rfl, rfl, dn, nv3, dp, _, rfl, ?_⟩
      rw [QD.valV_dictFrom]
      by_cases hin : m ∈ QD.seenOf (ks.take i)
      · rw [if_pos hin]
        refine ⟨_, rfl, .inl ⟨rfl, _, SqL.of hI⟩, ?_⟩
        refine ⟨_, rfl, _, rfl, d, bs[i], _, m, _, rfl, rfl, dn, nv3, dp, (by rw [QD.valV_dictFrom, if_pos hin]), ?_⟩
        refine ⟨l, _, _, rfl, rfl, hI, sz_lt (by rw [List.length_map]; omega), ?_⟩
        refine ⟨_, rfl, Same.mut s2 hl0, dn.to (fun b xs e => (upd_ne (ne_of e hI (fun z => nomatch z))).trans e) (upd_ne ?_) |> (fun z => by rw [htk, QD.seenOf_snoc]; unfold QD.addSeen; rw [if_pos hin]; exact z), ?_⟩
        · obtain ⟨_, xs, h1, _⟩ := dn
          exact ne_of h1 hI (fun z => nomatch z)
        · rw [htk]
          unfold IntsAt
          rw [upd_same, QD.numb_snoc, List.map_append]
          unfold QD.addSeen
          rw [if_pos hin, Nat.zero_add]
          rfl
      · rw [if_neg hin]
        refine ⟨_, rfl, d, _, rfl, dn, _, rfl, _, rfl, d, bs[i], _, m, rfl, rfl, dn, nv3, dp, sz_lt (by rw [QD.dictFrom_len]; omega), fun H4 o4 dn4 _ => ?_⟩
        rw [QD.dictFrom_len] at dn4
        have dn5 : QD.DN P w H4 d (QD.dictFrom 0 (QD.seenOf (ks.take i) ++ [m])) := by
          have e := QD.putK_dictFrom (n := 0) hin
          rw [Nat.zero_add] at e
          rw [← e]
          exact dn4
        have ndl2 : l ≠ d := by
          obtain ⟨_, xs, h1, _⟩ := dn
          exact (ne_of h1 hI (fun z => nomatch z)).symm
        have hd3 : ∀ b xs, H3 b = some (.tup xs) → H4 b = some (.tup xs) := fun b xs e => by
          obtain ⟨_, ys, h1, _⟩ := dn
          exact (o4 b (ne_of e h1 (fun z => nomatch z))).trans e
        have nv4 := nv3.to hd3
        have hI4 : IntsAt H4 l (QD.numb (ks.take i)) := (o4 l ndl2).trans hI
        have s4 : Same H H4 := fun b u e => (o4 b (ne_of_none e hd)).trans (s2 b u e)
        refine ⟨_, rfl, .inl ⟨rfl, _, SqL.of hI4⟩, ?_⟩
        refine ⟨_, rfl, _, rfl, d, bs[i], _, m, _, rfl, rfl, dn5, nv4, dp, (by rw [QD.valV_dictFrom, if_pos (by simp)]), ?_⟩
        refine ⟨l, _, _, rfl, rfl, hI4, sz_lt (by rw [List.length_map]; omega), ?_⟩
        refine ⟨_, rfl, Same.mut s4 hl0, dn5.to (fun b xs e => (upd_ne (ne_of e hI4 (fun z => nomatch z))).trans e) (upd_ne ndl2.symm) |> (fun z => by rw [htk, QD.seenOf_snoc]; unfold QD.addSeen; rw [if_neg hin]; exact z), ?_⟩
        rw [htk]
        unfold IntsAt
        rw [upd_same, QD.numb_snoc, List.map_append]
        unfold QD.addSeen
        rw [if_neg hin, Nat.zero_add]
        rfl
    · rintro σ H2 ⟨v3, rfl, s2, dn, hI⟩
      rw [List.take_of_length_le (by rw [List.length_map]; omega)] at hI
      exact ⟨_, rfl, k l H2 s2 hl0 hI⟩
end
end Law
end

section
set_option Elab.async false
set_option linter.all false
set_option maxRecDepth 100000
set_option maxHeartbeats 4000000
namespace Law
open PySem PySem.Spec PyProof.Rows L2 LamX QB QM
section
variable {P : Program} {w : World} {K : PySem.W.Frag} {mg : Str → Option Value} {base : Heap}
theorem ints_get {ns : List Nat} {k n : Nat} (h : ns[k]? = some n) : (ns.map fun (n : Nat) => V.int (n : Int))[k]? = some (.int (n : Int)) := by
  rw [List.getElem?_map, h]
  rfl
theorem Same.ints {H H' : Hp} {a : Addr} {ns : List Nat} (e : Same H H') (h : IntsAt H a ns) : IntsAt H' a ns := e _ _ h
theorem Same.marks {H H' : Hp} {a : Addr} {ks : List NestedKey} (e : Same H H') (h : MarksAt H a ks) : MarksAt H' a ks := by
  obtain ⟨bs, h1, h2⟩ := h
  exact ⟨bs, e _ _ h1, L2.Paired.mapP h2 fun b k z => ⟨z.1.to fun c xs e' => e _ _ e', z.2⟩⟩
/-- the standings' ways lead to standings -/
def WaysIn (F : Form) : Prop := ∀ s ∈ F, s.2.length ≤ 100 ∧ ∀ n, some n ∈ s.2 → n < F.length
theorem nvs_ints {H : Hp} (f : α → Int) : ∀ l : List α, QD.NVs H (l.map fun x => NestedKey.num (f x)) (l.map fun x => V.int (f x))
  | [] => .nil
  | _ :: l => .cons (.num _) (nvs_ints f l)
def wayInt (cs : List Nat) : Option Nat → Int
  | none => -1
  | some n => ((cs.getD n 0 : Nat) : Int)
theorem wayNum_eq (cs : List Nat) (w : Option Nat) : wayNum cs w = .num (wayInt cs w) := by cases w <;> rfl
theorem depthAll_num (f : α → Int) : ∀ l : List α, NestedKey.depthAll (l.map fun x => NestedKey.num (f x)) = 0
  | [] => rfl
  | _ :: l => by
    show max (NestedKey.depth (.num _)) (NestedKey.depthAll _) = 0
    rw [depthAll_num f l]
    rfl
def spParted : Sp := fun vs H Q _ => ∃ (a b : Addr) (cs : List Nat) (F : Form), vs = [.ref a, .ref b] ∧ IntsAt H a cs ∧ FormAt H b F ∧ cs.length = F.length ∧ F.length ≤ 5000 ∧ WaysIn F ∧
  ∀ (p : Addr) (H' : Hp), Same H H' → H p = none → IntsAt H' p (part cs F) → Q (.ref p) H'
theorem ok_parted (X : TX K mg) : FnOk P w K mg base CX0 2 X.d_parted.a X.d_parted.fd ["classes", "standings"] spParted := by
  have nd := sc_parted.nd
  refine X.d_parted.F.ok sc_parted (fun vs H Q E h => ?_) (fun cdv A outer s H vs Q E hr h => ?_)
  · obtain ⟨a, b, cs, F, rfl, _⟩ := h
    rfl
  · obtain ⟨a, b, cs, F, rfl, hc, hF, hlen, hz, hin, k⟩ := h
    refine ⟨_, (pss_cons (ps_set (i := 2) nd rfl (Or.inl rfl) (pe_lst pa_nil)) (pss_cons (ps_for PassesOwn.never rfl (QB.pi_zipK K (by rfl) X.n_zip (pa_cons (pv 0) (pa_cons (pv 1) pa_nil))) (pg_tup (by rfl) (pgs_cons (pg_name (i := 3) nd rfl (Or.inl rfl)) (pgs_cons (pg_tup (by rfl) (pgs_cons (pg_name (i := 4) nd rfl (Or.inl rfl)) (pgs_cons (pg_name (i := 5) nd rfl (Or.inl rfl)) (pgs_nil)))) (pgs_nil)))) (pss_one (ps_expr (QB.pe_bmK K PySem.F.plainAttrs_list PySem.F.slot_list_append PySem.F.type_list_append mt_append (pv 2) (pa_cons (pe_tup (pa_cons (pv 3) (pa_cons (pe_callTy (QB.call_tupleK K) (by rfl) X.n_tuple QB.bo_tuple (pa_cons (pe_lc (own := [("way", 6)]) (g := gName 6) (tt := tYes) rfl nd (QB.pi_listK K (pv 5)) (blkOk_by (N := ["classes", "standings", "marks", "number", "_", "ways", "way"]) (sc := defScope s_parted) (by decide +kernel)) (fun _ _ _ _ _ => pg_name (i := 6) nd rfl (Or.inl rfl)) (fun _ _ _ _ _ => pts_nil) (fun _ _ _ _ _ => (pe_ifExp (pt_cmpR op_isN (pv 6) pe_non (nomark _)) (pe_un un_neg pe_int) (pe_ix (QB.ix_listK K) (pv 0) (pv 6) (fun _ _ => rfl))))) pa_nil)) pa_nil))) pa_nil))))) (pss_one (ps_ret (pe_call (ok_numbered X) (hr.mono (by decide)) rfl X.d_numbered.mg X.d_numbered.F.kp X.d_numbered.b .nil pass0 (pa_cons (pv 2) pa_nil)))))), ?_⟩
    try dsimp only [Cx.nox, Cx.wish, cxOf]
    refine ⟨Nat.zero_le _, fun l hl => ?_⟩
    have s0 : Same H (upd H l (.lst [])) := same_new hl
    obtain ⟨ts, hts, hpr⟩ := hF
    have hlt := Paired.length hpr
    refine ⟨_, rfl, _, rfl, _, _, _, _, rfl, SqL.of (Same.ints s0 hc), SqL.of (s0 _ _ hts), ?_⟩
    refine for_it (walk_zip (K := K) (a := a) (b := b) (n := F.length) (by rw [List.length_map, List.length_map]; omega)) (fun i σ H' => ∃ (v3 v4 v5 : Option V), σ = [some (.ref a), some (.ref b), some (.ref l), v3, v4, v5, none] ∧ Same H H' ∧ MarksAt H' l ((partKeys cs F).take i))
      ⟨none, none, none, rfl, s0, [], upd_same, .nil⟩ (fun i σ H' _ ⟨_, _, _, _, s1, _⟩ => ⟨SqL.of (Same.ints s1 hc), SqL.of (s1 _ _ hts)⟩) ?_ ?_
    · rintro i x σ H1 H2 hi ⟨v3, v4, v5, rfl, s1, ms, hms, hpm⟩ ⟨tp, x1, x2, rfl, ntp, rfl, e1, e2⟩
      have hci : cs[i]? = some (cs[i]'(by omega)) := List.getElem?_eq_getElem _
      have e1 : (cs.map fun (n : Nat) => V.int (n : Int))[i]? = some x1 := e1
      rw [ints_get hci] at e1
      cases e1
      have hFi : F[i]? = some F[i] := List.getElem?_eq_getElem hi
      obtain ⟨t, ht, p1, p2, f1, f2, f3⟩ := paired_get hpr hFi
      have e2 : (ts.map V.ref)[i]? = some x2 := e2
      rw [List.getElem?_map, ht] at e2
      cases e2
      have s2 : Same H (upd H1 tp (.tup [.int ((cs[i]'(by omega) : Nat) : Int), .ref t])) := Same.new s1 ntp
      have s12 : Same H1 (upd H1 tp (.tup [.int ((cs[i]'(by omega) : Nat) : Int), .ref t])) := same_new ntp
      refine ⟨tp, _, rfl, SqT.of upd_same, rfl, _, _, rfl, _, _, rfl, ⟨t, _, rfl, SqT.of (s2 _ _ f1), rfl, _, _, rfl, _, _, rfl, rfl, rfl, ?_⟩⟩
      refine ⟨_, rfl, .inl ⟨rfl, _, SqL.of (s12 _ _ hms)⟩, ?_⟩
      refine ⟨_, rfl, _, rfl, _, rfl, ⟨_, SqL.of (Same.ways s2 f3)⟩, fun D hD => ?_⟩
      refine lc_map (walk_listWs (K := K) (a := p2) (ws := F[i].2)) hD (by have := (hin _ (mem_of hFi)).1; omega) (fun H3 s3 => Same.ways (s2.trans s3) f3) (fun j => .int (wayInt cs (F[i].2[j]?).join)) ?_ ?_
      · rintro j x H3 H4 kk hj s3 ⟨y, hy, rfl, rfl⟩ hk
        have hk' := hk H4 (Same.refl H4)
        rw [hy] at hk'
        refine ⟨rfl, _, rfl, rfl, _, rfl, ?_⟩
        rw [vW_is]
        cases y with
        | none => exact iteT ⟨1, rfl, hk'⟩
        | some n =>
          have hn : n < cs.length := by rw [hlen]; exact (hin _ (mem_of hFi)).2 n (List.mem_of_getElem? hy)
          have hcn : cs[n]? = some cs[n] := List.getElem?_eq_getElem hn
          refine iteF ⟨_, rfl, _, rfl, _, _, _, _, rfl, rfl, SqL.of (Same.ints (s2.trans s3) hc), atI_nat (ints_get hcn), ?_⟩
          have e3 : wayInt cs (some n) = ((cs[n] : Nat) : Int) := by
            show ((cs.getD n 0 : Nat) : Int) = _
            rw [List.getD_eq_getElem?_getD, hcn]
            rfl
          rw [← e3]
          exact hk'
      · intro H3 s3 hD3
        rw [range_map_get _ F[i].2 (fun w => .int (wayInt cs w)) (fun j x hx => by rw [hx]; rfl)] at hD3
        refine ⟨D, _, rfl, .inl ⟨SqL.of hD3, fun q hq => ?_⟩⟩
        refine ⟨by show 2 ≤ sizeLine; decide, fun r hr' => ?_⟩
        have s4 : Same (upd H1 tp (.tup [.int ((cs[i]'(by omega) : Nat) : Int), .ref t])) (upd (upd H3 q (.tup (F[i].2.map fun w => V.int (wayInt cs w)))) r (.tup [.int ((cs[i]'(by omega) : Nat) : Int), .ref q])) := Same.new (Same.new s3 hq) hr'
        have s5 := s12.trans s4
        have hl5 := s5 _ _ hms
        refine ⟨l, _, _, rfl, rfl, hl5, sz_lt ?_, ?_⟩
        · rw [List.length_map, Paired.length hpm, List.length_take]
          omega
        · refine ⟨_, _, _, rfl, Same.mut (s1.trans s5) hl, ms ++ [r], ?_, ?_⟩
          · rw [upd_same, List.map_append]
            rfl
          · have hpk : (partKeys cs F)[i]? = some (partKey cs (cs[i]'(by omega), F[i])) := by
              have ez : (cs.zip F)[i]? = some (cs[i]'(by omega), F[i]) := by
                rw [List.getElem?_zip_eq_some]
                exact ⟨hci, hFi⟩
              unfold partKeys
              rw [List.getElem?_map, ez]
              rfl
            rw [List.take_succ, hpk]
            have tk : ∀ c xs, H1 c = some (.tup xs) → (upd (upd (upd H3 q (.tup (F[i].2.map fun w => V.int (wayInt cs w)))) r (.tup [.int ((cs[i]'(by omega) : Nat) : Int), .ref q])) l (.lst (ms.map V.ref ++ [V.ref r]))) c = some (.tup xs) := fun c xs e =>
              (upd_ne (ne_of e hms (fun z => nomatch z))).trans (s5 _ _ e)
            refine Paired.snoc (L2.Paired.mapP hpm fun b k z => ⟨z.1.to tk, z.2⟩) ⟨?_, ?_⟩
            · have qr : (upd (upd (upd H3 q (.tup (F[i].2.map fun w => V.int (wayInt cs w)))) r (.tup [.int ((cs[i]'(by omega) : Nat) : Int), .ref q])) l (.lst (ms.map V.ref ++ [V.ref r]))) r = some (.tup [.int ((cs[i]'(by omega) : Nat) : Int), .ref q]) :=
                (upd_ne (ne_of upd_same hl5 (fun z => nomatch z))).trans upd_same
              have qq : (upd (upd (upd H3 q (.tup (F[i].2.map fun w => V.int (wayInt cs w)))) r (.tup [.int ((cs[i]'(by omega) : Nat) : Int), .ref q])) l (.lst (ms.map V.ref ++ [V.ref r]))) q = some (.tup (F[i].2.map fun w => V.int (wayInt cs w))) := by
                have z1 : (upd (upd H3 q (.tup (F[i].2.map fun w => V.int (wayInt cs w)))) r (.tup [.int ((cs[i]'(by omega) : Nat) : Int), .ref q])) q = some (.tup (F[i].2.map fun w => V.int (wayInt cs w))) := (upd_ne (ne_of_none upd_same hr')).trans upd_same
                exact (upd_ne (ne_of z1 hl5 (fun z => nomatch z))).trans z1
              refine .tup qr (.cons (.num _) (.cons (.tup qq ?_) .nil))
              have e9 : F[i].2.map (wayNum cs) = F[i].2.map fun w => NestedKey.num (wayInt cs w) := List.map_congr_left fun w _ => wayNum_eq cs w
              rw [e9]
              exact nvs_ints _ _
            · show NestedKey.depth (.tup [.num _, .tup (F[i].2.map (wayNum cs))]) ≤ 8
              have e9 : F[i].2.map (wayNum cs) = F[i].2.map fun w => NestedKey.num (wayInt cs w) := List.map_congr_left fun w _ => wayNum_eq cs w
              rw [e9]
              simp [NestedKey.depth, NestedKey.depthAll, depthAll_num]
    · rintro σ H1 ⟨v3, v4, v5, rfl, s1, hm⟩
      rw [List.take_of_length_le (by rw [partKeys_len hlen]; exact Nat.le_refl _)] at hm
      exact ⟨_, rfl, l, _, rfl, hm, by rw [partKeys_len hlen]; omega, fun p H' s' np hp => k p H' (s1.trans s') (s1.free np) hp⟩

theorem nvs_texts {H : Hp} : ∀ l : List Str, QD.NVs H (l.map NestedKey.text) (l.map V.str)
  | [] => .nil
  | _ :: l => .cons (.text _) (nvs_texts l)
theorem depthAll_text : ∀ l : List Str, NestedKey.depthAll (l.map NestedKey.text) = 0
  | [] => rfl
  | _ :: l => by
    show max (NestedKey.depth (.text _)) (NestedKey.depthAll _) = 0
    rw [depthAll_text l]
    rfl
theorem max_run {H : Hp} {a : Addr} {cs : List Nat} {Q : VK} (h : IntsAt H a cs) (hp : 0 < cs.length) (q : Q (.int (maxOf cs : Int)) H) : rMax K [.ref a] H Q := by
  refine ⟨a, cs.map fun (n : Nat) => (n : Int), rfl, SqL.of (by rw [List.map_map]; exact h), by rw [List.length_map]; exact hp, fun m hm hle => ?_⟩
  obtain ⟨x, hx, rfl⟩ := List.mem_map.mp hm
  have e : maxOf cs = x := maxOf_eq hx fun y hy => by
    have := hle (y : Int) (List.mem_map.mpr ⟨y, hy, rfl⟩)
    omega
  rw [e] at q
  exact q
def spAlike : Sp := fun vs H Q _ => ∃ (b : Addr) (F : Form), vs = [.ref b] ∧ FormAt H b F ∧ 0 < F.length ∧ F.length ≤ 5000 ∧ WaysIn F ∧ (∀ s ∈ F, s.1.length ≤ 10000) ∧ ∀ (p : Addr) (H' : Hp), Same H H' → H p = none → IntsAt H' p (alike F) → Q (.ref p) H'
theorem ok_alike_classes (X : TX K mg) : FnOk P w K mg base CX0 3 X.d_alike_classes.a X.d_alike_classes.fd ["standings"] spAlike := by
  have nd := sc_alike_classes.nd
  refine X.d_alike_classes.F.ok sc_alike_classes (fun vs H Q E h => ?_) (fun cdv A outer s H vs Q E hr h => ?_)
  · obtain ⟨b, F, rfl, _⟩ := h
    rfl
  · obtain ⟨b, F, rfl, hF, hp, hz, hin, hw, k⟩ := h
    refine ⟨_, (pss_cons (ps_set (i := 1) nd rfl (Or.inl rfl) (pe_call (ok_numbered X) (hr.mono (by decide)) rfl X.d_numbered.mg X.d_numbered.F.kp X.d_numbered.b .nil pass0 (pa_cons (pe_lc (own := [("word", 3), ("_", 4)]) (g := gTup K 2 (gCons (gName 3) (gCons (gName 4) (gNil)))) (tt := tYes) rfl nd (QB.pi_listK K (pv 0)) (blkOk_by (N := ["standings", "classes", "many", "word", "_"]) (sc := defScope s_alike_classes) (by decide +kernel)) (fun _ _ _ _ _ => pg_tup (by rfl) (pgs_cons (pg_name (i := 3) nd rfl (Or.inl rfl)) (pgs_cons (pg_name (i := 4) nd rfl (Or.inl rfl)) (pgs_nil)))) (fun _ _ _ _ _ => pts_nil) (fun _ _ _ _ _ => (pe_callTy (QB.call_tupleK K) (by rfl) X.n_tuple QB.bo_tuple (pa_cons (pv 3) pa_nil)))) pa_nil))) (pss_cons (ps_set (i := 2) nd rfl (Or.inl rfl) pe_int) (pss_cons (ps_while PassesOwn.never (pt_cmpR op_le (pv 2) (pe_callB (QB.cr_maxK K rfl) (by rfl) X.n_max QB.bo_max (pa_cons (pv 1) pa_nil)) (nomark _)) (pss_cons (ps_set (i := 2) nd rfl (Or.inl rfl) (pe_op op_add (pe_callB (QB.cr_maxK K rfl) (by rfl) X.n_max QB.bo_max (pa_cons (pv 1) pa_nil)) pe_int)) (pss_one (ps_set (i := 1) nd rfl (Or.inl rfl) (pe_call (ok_parted X) (hr.mono (by decide)) rfl X.d_parted.mg X.d_parted.F.kp X.d_parted.b .nil pass0 (pa_cons (pv 1) (pa_cons (pv 0) pa_nil))))))) (pss_one (ps_ret (pv 1)))))), ?_⟩
    try dsimp only [Cx.nox, Cx.wish, cxOf]
    obtain ⟨vs, hv, hvl⟩ := FormAt.lst hF
    refine ⟨_, rfl, _, rfl, ⟨_, SqL.of hv⟩, fun D hD => ?_⟩
    refine lc_it (walk_listF (K := K) (p := b) (F := F)) (fun i H' => Same H H' ∧ MarksAt H' D (wordKeys (F.take i)))
      ⟨same_new hD, [], upd_same, .nil⟩ (fun i H' _ h => Same.form h.1 hF) ?_ ?_
    · rintro i x H1 H2 hi ⟨s1, ms, hms, hpm⟩ ⟨s, t, a, b', hs, rfl, rfl, h1, h2, h3⟩
      refine ⟨t, _, rfl, SqT.of h1, rfl, _, _, rfl, _, _, rfl, rfl, rfl, ?_⟩
      refine ⟨_, rfl, _, _, rfl, .inl ⟨SqL.of h2, fun q hq => ?_⟩⟩
      have e1 : Same H2 (upd H2 q (.tup (vS s.1))) := same_new hq
      have hml := Paired.length hpm
      unfold wordKeys at hml
      rw [List.length_map, List.length_take] at hml
      refine ⟨_, e1 _ _ hms, sz_lt (by rw [List.length_map]; omega), Same.mut (s1.trans e1) hD, ms ++ [q], ?_, ?_⟩
      · rw [upd_same, List.map_append]
        rfl
      · have tk : ∀ c xs, H2 c = some (.tup xs) → (upd (upd H2 q (.tup (vS s.1))) D (.lst (ms.map V.ref ++ [V.ref q]))) c = some (.tup xs) := fun c xs e =>
          (upd_ne (ne_of e hms (fun z => nomatch z))).trans (e1 _ _ e)
        have hs' : F.take (i + 1) = F.take i ++ [s] := by rw [List.take_succ, hs]; rfl
        unfold wordKeys at hpm ⊢
        rw [hs', List.map_append]
        refine Paired.snoc (L2.Paired.mapP hpm fun b k z => ⟨z.1.to tk, z.2⟩) ⟨.tup (vs := vS s.1) ((upd_ne (ne_of upd_same (e1 _ _ hms) (fun z => nomatch z))).trans upd_same) (nvs_texts _), ?_⟩
        show NestedKey.depth (.tup (s.1.map .text)) ≤ 8
        simp [NestedKey.depth, depthAll_text]
    · rintro H1 ⟨s1, hm⟩
      rw [List.take_length] at hm
      refine ⟨D, _, rfl, hm, by unfold wordKeys; rw [List.length_map]; omega, fun l H2 s2 nl hl => ?_⟩
      refine ⟨fun m σ H' => ∃ (c : Addr) (many : Nat) (cs : List Nat) (v3 v4 : Option V), σ = [some (.ref b), some (.ref c), some (.int (many : Int)), v3, v4] ∧ Same H H' ∧ H c = none ∧ IntsAt H' c cs ∧ cs.length = F.length ∧ (∀ x ∈ cs, x < F.length) ∧ m = F.length + 1 - many ∧
        many ≤ F.length ∧ ∃ f, F.length + 1 ≤ f + many ∧ alikeLoop F f many cs = alike F, ⟨_, l, 0, _, none, none, rfl, s1.trans s2, s1.free nl, hl, by rw [QD.numb_len]; exact List.length_map _, fun x hx => ?_, rfl, Nat.zero_le _, _, Nat.le_refl _, rfl⟩, ?_⟩
      · have := numb_lt' hx
        unfold wordKeys at this
        rwa [List.length_map] at this
      · rintro m σ H3 ⟨c, many, cs, v3, v4, rfl, s3, nc, hc, hcl, hclt, rfl, hmany, f, hf, hloop⟩
        have hpos : 0 < cs.length := by omega
        have hmx : maxOf cs < F.length := by
          have := (maxOf_le cs 0 (F.length - 1)).mpr ⟨Nat.zero_le _, fun x hx => by have := hclt x hx; omega⟩
          unfold maxOf
          omega
        refine ⟨_, rfl, _, rfl, ?_⟩
        dsimp only [tNil]
        refine max_run hc hpos ?_
        refine ⟨_, _, rfl, rfl, _, rfl, ?_⟩
        cases f with
        | zero => omega
        | succ f =>
          unfold alikeLoop at hloop
          by_cases hle : many ≤ maxOf cs
          · rw [if_pos (decide_eq_true (by omega))]
            rw [if_pos hle] at hloop
            refine ⟨_, fun σ' H' h => h, ?_⟩
            refine ⟨_, rfl, ?_⟩
            dsimp only [tNil]
            refine max_run hc hpos ?_
            refine ⟨_, _, rfl, rfl, ?_⟩
            refine ⟨_, rfl, _, rfl, ?_⟩
            refine ⟨c, b, cs, F, rfl, hc, Same.form s3 hF, hcl, hz, hin, fun p H4 s4 np hp4 => ?_⟩
            refine ⟨_, ?_, p, maxOf cs + 1, _, v3, v4, rfl, s3.trans s4, s3.free np, hp4, part_len hcl, fun x hx => ?_, rfl, by omega, f, by omega, hloop⟩
            · omega
            · have := numb_lt' hx
              rwa [partKeys_len hcl] at this
          · rw [if_neg (by simp; omega)]
            rw [if_neg hle] at hloop
            rw [← hloop] at k
            exact ⟨_, rfl, k c H3 s3 nc hc⟩
end
end Law
end

section
set_option Elab.async false
set_option linter.all false
set_option maxRecDepth 100000
set_option maxHeartbeats 4000000
namespace Law
open PySem PySem.Spec PyProof.Rows L2 LamX QB QM
section
variable {P : Program} {w : World} {K : PySem.W.Frag} {mg : Str → Option Value} {base : Heap}
def keysOf (cs met : List Nat) : List L2.Key := met.map fun m => (Sum.inl ((clsOf cs m : Nat) : Int) : L2.Key)
theorem mem_keysOf {cs met : List Nat} {n : Nat} : (Sum.inl ((clsOf cs n : Nat) : Int) : L2.Key) ∈ keysOf cs met ↔ clsOf cs n ∈ met.map (clsOf cs) := by
  unfold keysOf
  rw [List.mem_map, List.mem_map]
  constructor
  · rintro ⟨m, hm, e⟩
    exact ⟨m, hm, by have := Sum.inl.inj e; omega⟩
  · rintro ⟨m, hm, e⟩
    exact ⟨m, hm, by rw [e]⟩
theorem idx_keysOf {cs : List Nat} {n : Nat} (met : List Nat) : (@List.idxOf L2.Key instBEqOfDecidableEq (Sum.inl ((clsOf cs n : Nat) : Int)) (keysOf cs met)) = (met.map (clsOf cs)).idxOf (clsOf cs n) := by
  have e := QD.idxOf_map_inj (κ := L2.Key) (fun c : Nat => Sum.inl (c : Int)) (fun a b h => by have := Sum.inl.inj h; omega) (clsOf cs n) (met.map (clsOf cs))
  rw [List.map_map] at e
  exact e
theorem clsOf_get {cs : List Nat} {n : Nat} (h : n < cs.length) : cs[n]? = some (clsOf cs n) := by
  unfold clsOf
  rw [List.getD_eq_getElem?_getD, List.getElem?_eq_getElem h]
  rfl
/-- one more way looked at -/
theorem keysOf_snoc (cs met : List Nat) (n : Nat) : keysOf cs (met ++ [n]) = keysOf cs met ++ [Sum.inl ((clsOf cs n : Nat) : Int)] := by
  unfold keysOf
  rw [List.map_append]
  rfl
theorem keysOf_len (cs met : List Nat) : (keysOf cs met).length = met.length := List.length_map _
/-- the word of the m-th standing of a form of one's own -/
def wAd (Lb : List Tri) (m : Nat) : Addr := ((Lb[m]?).map fun x => x.2.1).getD 0
theorem wAd_of {Lb : List Tri} {m : Nat} {x : Tri} (h : Lb[m]? = some x) : wAd Lb m = x.2.1 := by
  unfold wAd
  rw [h]
  rfl
theorem inner_cons (x : Tri) (L : List Tri) : inner (x :: L) = x.2.1 :: x.2.2 :: inner L := rfl
theorem wAd_mem {Lb : List Tri} {m : Nat} (h : m < Lb.length) : wAd Lb m ∈ inner Lb := by
  have e := List.getElem?_eq_getElem h
  rw [wAd_of e]
  exact List.mem_flatMap.mpr ⟨_, List.getElem_mem h, by simp⟩
theorem wAd_inj : ∀ {Lb : List Tri} {i j : Nat}, (inner Lb).Nodup → i < Lb.length → j < Lb.length → wAd Lb i = wAd Lb j → i = j
  | [], i, j, _, h, _, _ => absurd h (Nat.not_lt_zero _)
  | x :: Lb, 0, 0, _, _, _, _ => rfl
  | x :: Lb, 0, j + 1, nd, _, hj, e => by
    rw [inner_cons, List.nodup_cons] at nd
    have hm := wAd_mem (Lb := Lb) (m := j) (by simpa using hj)
    have e' : x.2.1 = wAd Lb j := e
    exact absurd (by rw [e']; exact List.mem_cons_of_mem _ hm) nd.1
  | x :: Lb, i + 1, 0, nd, hi, _, e => by
    rw [inner_cons, List.nodup_cons] at nd
    have hm := wAd_mem (Lb := Lb) (m := i) (by simpa using hi)
    have e' : wAd Lb i = x.2.1 := e
    exact absurd (by rw [← e']; exact List.mem_cons_of_mem _ hm) nd.1
  | x :: Lb, i + 1, j + 1, nd, hi, hj, e => by
    rw [inner_cons, List.nodup_cons, List.nodup_cons] at nd
    have e' : wAd Lb i = wAd Lb j := e
    rw [wAd_inj nd.2.2 (by simpa using hi) (by simpa using hj) e']
/-- one more standing, with a word that stood already -/
theorem newL_snoc {H0 H H' : Hp} {L : List Tri} {F : Form} {t a b : Addr} {s : Std} (n : NewL H0 H L F) (e : Same H H') (ha : a ∉ inner L) (hb : H b = none) (hab : a ≠ b) (h1 : H' t = some (.tup [.ref a, .ref b])) (h2 : WordAt H' a s.1) (h3 : WaysAt H' b s.2) (f1 : Fresh H0 t) (f2 : Fresh H0 a) (f3 : Fresh H0 b) :
    NewL H0 H' (L ++ [(t, a, b)]) (F ++ [s]) := by
  have hap : ∀ x ∈ inner L, ∀ y ∈ inner [(t, a, b)], x ≠ y := by
    intro x hx y hy z
    subst z
    rcases List.mem_cons.mp hy with hy | hy
    · rw [hy] at hx
      exact ha hx
    · rw [List.mem_singleton.mp hy] at hx
      obtain ⟨xs, hxs⟩ := n.there hx
      rw [hb] at hxs
      cases hxs
  have hone : (inner [(t, a, b)]).Nodup := by
    show [a, b].Nodup
    simp [hab]
  have hnd : (inner L ++ inner [(t, a, b)]).Nodup := List.nodup_append.mpr ⟨n.nd, hone, hap⟩
  refine ⟨Paired.snoc (n.same e).at_ ⟨h1, h2, h3⟩, fun x hx => ?_, by rw [inner_append]; exact hnd⟩
  rcases List.mem_append.mp hx with hx | hx
  · exact n.new x hx
  · rw [List.mem_singleton.mp hx]
    exact ⟨f1, f2, f3⟩
/-- where the words of what is told stand -/
structure Told (H : Hp) (Lb : List Tri) (met : List Nat) (L : List Tri) : Prop where
  words : L.map (fun x => x.2.1) = (met.take L.length).map (wAd Lb)
  ways : ∀ x ∈ L, H x.2.2 = none
theorem Told.out {H : Hp} {Lb : List Tri} {met : List Nat} {L : List Tri} {F : Form} {cs : List Nat} (T : Told H Lb met L) (nd : (inner Lb).Nodup) (hl : Lb.length = F.length) (M : Met F cs met) {k m : Nat} (hk : L.length = k) (hm : met[k]? = some m) {u : HO} (hu : H (wAd Lb m) = some u) : wAd Lb m ∉ inner L := fun h => by
  obtain ⟨x, hx, hq⟩ := mem_inner h
  rcases hq with hq | hq
  · have h1 : x.2.1 ∈ L.map (fun x => x.2.1) := List.mem_map.mpr ⟨x, hx, rfl⟩
    rw [T.words] at h1
    obtain ⟨m', h2, h3⟩ := List.mem_map.mp h1
    obtain ⟨j, hj, e⟩ := List.mem_iff_getElem.mp h2
    rw [List.length_take] at hj
    rw [List.getElem_take] at e
    have hjm : j < met.length := by omega
    have e2 : met[j]? = some m' := by rw [List.getElem?_eq_getElem hjm, e]
    have l1 := M.lt m (List.mem_of_getElem? hm)
    have l2 := M.lt m' (List.mem_of_getElem? e2)
    have e3 := wAd_inj nd (by omega) (by omega) (h3.trans hq.symm)
    subst e3
    have nm : met.Nodup := (List.pairwise_map.mp M.nd).imp fun h e => h (congrArg _ e)
    have := nd_ix nm e2 hm
    omega
  · rw [hq, T.ways x hx] at hu
    cases hu
theorem Told.snoc {H : Hp} {Lb : List Tri} {met m6 tl : List Nat} {L : List Tri} {k m : Nat} {t b : Addr} (T : Told H Lb met L) (hk : L.length = k) (hm : met[k]? = some m) (h6 : m6 = met ++ tl) (hb : H b = none) : Told H Lb m6 (L ++ [(t, wAd Lb m, b)]) := by
  subst hk
  have hlt : L.length < met.length := (List.getElem?_eq_some_iff.mp hm).1
  refine ⟨?_, fun x hx => ?_⟩
  · rw [List.map_append, T.words, h6, List.length_append, List.length_singleton, List.take_append_of_le_length (by omega), List.take_succ, hm, List.map_append]
    rfl
  · rcases List.mem_append.mp hx with hx | hx
    · exact T.ways x hx
    · rw [List.mem_singleton.mp hx]
      exact hb
def spInOrder : Sp := fun vs H Q _ => ∃ (b a : Addr) (F : Form) (cs : List Nat) (H0 : Hp) (Lb : List Tri), vs = [.ref b, .ref a] ∧ NewF H0 H b Lb F ∧ (∀ q, H q = none → Fresh H0 q) ∧ IntsAt H a cs ∧ cs.length = F.length ∧ 0 < F.length ∧ F.length ≤ 5000 ∧ WaysIn F ∧
  ∀ (p : Addr) (L : List Tri) (H' : Hp), Same H H' → NewF H0 H' p L (inOrder F cs) → Q (.ref p) H'
theorem ok_in_order_met (X : TX K mg) : FnOk P w K mg base CX0 1 X.d_in_order_met.a X.d_in_order_met.fd ["standings", "classes"] spInOrder := by
  have nd := sc_in_order_met.nd
  refine X.d_in_order_met.F.ok sc_in_order_met (fun vs H Q E h => ?_) (fun cdv A outer s H vs Q E hr h => ?_)
  · obtain ⟨b, a, F, cs, H0, Lb, rfl, _⟩ := h
    rfl
  · obtain ⟨b, a, F, cs, H0, Lb, rfl, nF, fr0, hc, hlen, hp, hz, hin, k⟩ := h
    refine ⟨_, (pss_cons (ps_set (i := 2) nd rfl (Or.inr rfl) (pe_disp (pps_cons (pe_ix (QB.ix_listK K) (pv 1) pe_int (fun _ _ => rfl)) pe_int pps_nil) (by rfl) (by rfl) (fun z => by cases z) (by decide))) (pss_cons (ps_set (i := 3) nd rfl (Or.inl rfl) (pe_lst (pa_cons pe_int pa_nil))) (pss_cons (ps_set (i := 4) nd rfl (Or.inl rfl) (pe_lst pa_nil)) (pss_cons (ps_while PassesOwn.never (pt_cmpR op_lt (pe_callB (QB.call_lenK K) (by rfl) X.n_len PySem.boot_len (pa_cons (pv 4) pa_nil)) (pe_callB (QB.call_lenK K) (by rfl) X.n_len PySem.boot_len (pa_cons (pv 3) pa_nil)) (nomark _)) (pss_cons (ps_asg (pe_ix (QB.ix_listK K) (pv 0) (pe_ix (QB.ix_listK K) (pv 3) (pe_callB (QB.call_lenK K) (by rfl) X.n_len PySem.boot_len (pa_cons (pv 4) pa_nil)) (fun _ _ => rfl)) (fun _ _ => rfl)) (pg_tup (by rfl) (pgs_cons (pg_name (i := 5) nd rfl (Or.inl rfl)) (pgs_cons (pg_name (i := 6) nd rfl (Or.inl rfl)) (pgs_nil))))) (pss_cons (ps_for PassesOwn.never rfl (QB.pi_listK K (pv 6)) (pg_name (i := 7) nd rfl (Or.inl rfl)) (pss_one (ps_if (PW.pt (pw_and (pt_cmpR op_notN (pv 7) pe_non (nomark _)) (pw_and1 (pt_cmp (pc_dnotin (hu_of hr) (pe_ix (QB.ix_listK K) (pv 1) (pv 7) (fun _ _ => rfl)) (pv 2)))))) (pss_cons (ps_dput (hu_of hr) (pv 2) (pe_ix (QB.ix_listK K) (pv 1) (pv 7) (fun _ _ => rfl)) (pe_callB (QB.call_lenK K) (by rfl) X.n_len PySem.boot_len (pa_cons (pv 3) pa_nil)) rfl) (pss_one (ps_expr (QB.pe_bmK K PySem.F.plainAttrs_list PySem.F.slot_list_append PySem.F.type_list_append mt_append (pv 3) (pa_cons (pv 7) pa_nil))))) pss_nil))) (pss_one (ps_expr (QB.pe_bmK K PySem.F.plainAttrs_list PySem.F.slot_list_append PySem.F.type_list_append mt_append (pv 4) (pa_cons (pe_tup (pa_cons (pv 5) (pa_cons (pe_lc (own := [("way", 7)]) (g := gName 7) (tt := tYes) rfl nd (QB.pi_listK K (pv 6)) (blkOk_by (N := ["standings", "classes", "numbers", "met", "told", "beside", "ways", "way"]) (sc := defScope s_in_order_met) (by decide +kernel)) (fun _ _ _ _ _ => pg_name (i := 7) nd rfl (Or.inl rfl)) (fun _ _ _ _ _ => pts_nil) (fun _ _ _ _ _ => (pe_ifExp (pt_cmpR op_isN (pv 7) pe_non (nomark _)) pe_non (pe_dget (hu_of hr) (pv 2) (pe_ix (QB.ix_listK K) (pv 1) (pv 7) (fun _ _ => rfl)) (fun _ _ => rfl))))) pa_nil))) pa_nil))))))) (pss_one (ps_ret (pv 4))))))), ?_⟩
    try dsimp only [Cx.nox, Cx.wish, cxOf]
    have hF := nF.form
    have hLb := nF.all.len
    refine fun d hd => ?_
    have s1 : Same H (upd H d (.dK [])) := same_new hd
    refine ⟨_, rfl, _, _, _, _, rfl, rfl, SqL.of (Same.ints s1 hc), atI_nat (j := 0) (ints_get (clsOf_get (by omega))), upd_same, [(Sum.inl ((clsOf cs 0 : Nat) : Int), .int 0)], rfl, by show 1 ≤ 15; decide, ?_⟩
    rw [upd_upd]
    have s2 : Same H (upd H d (.dK (L2.mergeK [] [(Sum.inl ((clsOf cs 0 : Nat) : Int), .int 0)]))) := same_new hd
    refine ⟨by show 1 ≤ sizeLine; decide, fun l hl => ?_⟩
    have s3 := Same.new s2 (o := .lst [V.int 0]) hl
    refine ⟨Nat.zero_le _, fun t ht => ?_⟩
    have s4 := Same.new s3 (o := .lst []) ht
    have ndl : d ≠ l := ne_of_none upd_same hl
    have nlt : l ≠ t := ne_of_none upd_same ht
    have ndt : d ≠ t := ne_of_none ((upd_ne ndl).trans upd_same) ht
    refine ⟨fun m σ H' => ∃ (met : List Nat) (told : Form) (L : List Tri) (v5 v6 v7 : Option V), σ = [some (.ref b), some (.ref a), some (.ref d), some (.ref l), some (.ref t), v5, v6, v7] ∧ Same H H' ∧ H' d = some (.dK (QD.dictFrom 0 (keysOf cs met))) ∧ IntsAt H' l met ∧
      H' t = some (.lst (L.map fun x => V.ref x.1)) ∧ NewL H0 H' L told ∧ Told H Lb met L ∧ t ∉ inner L ∧ l ∉ inner L ∧ Met F cs met ∧ told.length ≤ met.length ∧ m = F.length - told.length ∧ ∃ f, F.length + 1 ≤ f + told.length ∧ orderLoop F cs f met told = inOrder F cs,
      ⟨_, [0], [], [], none, none, none, rfl, s4, ?_, ?_, upd_same, NewL.nil, ⟨rfl, fun _ h => nomatch h⟩, by simp [inner], by simp [inner], ⟨by simp, fun m hm => ?_⟩, by simp, rfl, _, Nat.le_refl _, rfl⟩, ?_⟩
    · rw [upd_ne ndt, upd_ne ndl, upd_same]
      rfl
    · exact (upd_ne nlt).trans upd_same
    · rw [List.mem_singleton.mp hm]
      exact hp
    · have d0 := hd
      have l0 : H l = none := s2.free hl
      have t0 : H t = none := s3.free ht
      rintro m σ H1 ⟨met, told, L, v5, v6, v7, rfl, s5, hD, hM, hT, nL, tl_, oT, oL, met_, htm, rfl, f, hf, hloop⟩
      have hLl := nL.len
      have hml := met_.len
      refine ⟨_, rfl, _, _, rfl, .inl (SqL.of hT), _, rfl, _, _, rfl, .inl (SqL.of hM), _, _, rfl, rfl, _, rfl, ?_⟩
      rw [List.length_map, List.length_map, hLl]
      cases f with
      | zero => omega
      | succ f =>
        unfold orderLoop at hloop
        by_cases hlt : told.length < met.length
        · rw [if_pos (decide_eq_true (by omega))]
          rw [if_pos hlt] at hloop
          refine ⟨_, fun σ' H' h => h, ?_⟩
          have hmt : met[told.length]? = some (met.getD told.length 0) := by
            rw [List.getD_eq_getElem?_getD, List.getElem?_eq_getElem hlt]
            rfl
          have hmF : met.getD told.length 0 < F.length := met_.lt _ (List.mem_of_getElem? hmt)
          generalize met.getD told.length 0 = mm at hloop hmt hmF
          have hFm := stdOf_get hmF
          generalize stdOf F mm = sd at hloop hFm
          have hsin := hin sd (mem_of hFm)
          obtain ⟨xb, hxb, f4, f5, f6⟩ := nF.all.get hFm
          have f1 := nF.lst
          have f3 : (Lb.map fun x => V.ref x.1)[mm]? = some (.ref xb.1) := by rw [List.getElem?_map, hxb]; rfl
          have ew := wAd_of hxb
          have fw : Fresh H0 xb.2.1 := (nF.all.new xb (List.mem_of_getElem? hxb)).2.1
          have ow := Told.out tl_ nF.all.nd hLb met_ hLl hmt (u := .lst (vS sd.1)) (by rw [ew]; exact f5)
          rw [ew] at ow
          obtain ⟨tt, p1, p2⟩ := xb
          have f3 : (Lb.map fun x => V.ref x.1)[mm]? = some (.ref tt) := f3
          have f4 : H tt = some (.tup [.ref p1, .ref p2]) := f4
          have f5 : WordAt H p1 sd.1 := f5
          have f6 : WaysAt H p2 sd.2 := f6
          have ow : p1 ∉ inner L := ow
          have fw : Fresh H0 p1 := fw
          have ew : wAd Lb mm = p1 := ew
          -- word, ways = standings[met[len(told)]]
          refine ⟨_, rfl, _, rfl, _, rfl, _, _, rfl, .inl (SqL.of hT), ?_⟩
          rw [List.length_map, hLl]
          refine ⟨_, _, _, _, rfl, rfl, SqL.of hM, atI_nat (ints_get hmt), _, _, _, _, rfl, rfl, SqL.of (s5 _ _ f1), atI_nat f3, ?_⟩
          refine ⟨tt, _, rfl, SqT.of (s5 _ _ f4), rfl, _, _, rfl, _, _, rfl, rfl, ?_⟩
          -- for way in ways
          refine ⟨_, rfl, _, rfl, ⟨_, SqL.of (Same.ways s5 f6)⟩, ?_⟩
          refine for_it (walk_listWs (K := K) (a := p2) (ws := sd.2)) (fun i σ H' => ∃ (v7 : Option V), σ = [some (.ref b), some (.ref a), some (.ref d), some (.ref l), some (.ref t), some (.ref p1), some (.ref p2), v7] ∧ Same H H' ∧ H' d = some (.dK (QD.dictFrom 0 (keysOf cs (visitAll cs met (sd.2.take i))))) ∧
            IntsAt H' l (visitAll cs met (sd.2.take i)) ∧ H' t = some (.lst (L.map fun x => V.ref x.1)) ∧ NewL H0 H' L told) ⟨_, rfl, s5, hD, hM, hT, nL⟩ (fun i σ H' _ ⟨_, _, s6, _⟩ => Same.ways s6 f6) ?_ ?_
          · rintro i x σ H2 H3 hi ⟨v7, rfl, s6, hD6, hM6, hT6, nL6⟩ ⟨y, hy, rfl, rfl⟩
            have htk : sd.2.take (i + 1) = sd.2.take i ++ [y] := by rw [List.take_succ, hy]; rfl
            have hyF : ∀ n, y = some n → n < F.length := fun n e => hsin.2 n (by rw [← e]; exact List.mem_of_getElem? hy)
            have metI : Met F cs (visitAll cs met (sd.2.take i)) := met_.visitAll fun n hn => hsin.2 n (List.mem_of_mem_take hn)
            have hvs : visitAll cs met (sd.2.take (i + 1)) = visit cs (visitAll cs met (sd.2.take i)) y := by
              rw [htk]
              unfold visitAll
              rw [List.foldl_append]
              rfl
            generalize visitAll cs met (sd.2.take i) = mi at hD6 hM6 metI hvs
            have hmi := metI.len
            refine ⟨_, rfl, rfl, _, rfl, ?_⟩
            rw [vW_is]
            cases y with
            | none =>
              refine iteF ?_
              refine ⟨_, rfl, s6, ?_, ?_, hT6, nL6⟩
              · rw [hvs]
                exact hD6
              · rw [hvs]
                exact hM6
            | some n =>
              have hn := hyF n rfl
              have hcn := ints_get (clsOf_get (cs := cs) (n := n) (by omega))
              refine iteT ?_
              refine ⟨_, rfl, _, rfl, _, _, _, _, rfl, rfl, SqL.of (Same.ints s6 hc), atI_nat hcn, _, rfl, d, _, rfl, DGet.k (k := Sum.inl ((clsOf cs n : Nat) : Int)) hD6, _, rfl, ?_⟩
              rw [QD.valV_dictFrom]
              by_cases hmem : clsOf cs n ∈ mi.map (clsOf cs)
              · rw [if_pos (mem_keysOf.mpr hmem)]
                refine ⟨_, rfl, s6, ?_, ?_, hT6, nL6⟩
                · rw [hvs]
                  simp only [visit, if_pos hmem]
                  exact hD6
                · rw [hvs]
                  simp only [visit, if_pos hmem]
                  exact hM6
              · rw [if_neg (fun z => hmem (mem_keysOf.mp z))]
                have hnd := metI.visit (w := some n) hyF
                have hvn : visit cs mi (some n) = mi ++ [n] := by simp only [visit, if_neg hmem]
                refine ⟨_, rfl, _, _, rfl, .inl (SqL.of hM6), ?_⟩
                refine ⟨_, rfl, _, rfl, _, rfl, _, _, _, _, rfl, rfl, SqL.of (Same.ints s6 hc), atI_nat hcn, d, _, rfl, DPut.k (k := Sum.inl ((clsOf cs n : Nat) : Int)) hD6 (sz_lt (by rw [QD.dictFrom_len, keysOf_len]; omega)), ?_⟩
                have s7 := Same.mut (p := d) (o := .dK (putK (QD.dictFrom 0 (keysOf cs mi)) (Sum.inl ((clsOf cs n : Nat) : Int)) (.int ((mi.map fun (n : Nat) => V.int (n : Int)).length : Nat)))) s6 d0
                have hM7 := (upd_ne (a := d) (o := .dK (putK (QD.dictFrom 0 (keysOf cs mi)) (Sum.inl ((clsOf cs n : Nat) : Int)) (.int ((mi.map fun (n : Nat) => V.int (n : Int)).length : Nat)))) (ne_of hM6 hD6 (fun z => nomatch z))).trans hM6
                refine ⟨_, rfl, .inl ⟨rfl, _, SqL.of hM7⟩, _, rfl, l, _, _, rfl, rfl, hM7, sz_lt (by rw [List.length_map]; omega), ?_⟩
                refine ⟨_, rfl, Same.mut s7 l0, ?_, ?_, ?_, ?_⟩
                · rw [upd_ne (ne_of hD6 hM6 (fun z => nomatch z)), upd_same, hvs, hvn, keysOf_snoc, List.length_map]
                  have e := QD.putK_dictFrom (n := 0) (l := keysOf cs mi) (k := (Sum.inl ((clsOf cs n : Nat) : Int) : L2.Key)) (fun z => hmem (mem_keysOf.mp z))
                  rw [Nat.zero_add, keysOf_len] at e
                  rw [e]
                · rw [hvs, hvn]
                  unfold IntsAt
                  rw [upd_same, List.map_append]
                  rfl
                · exact (upd_ne nlt.symm).trans ((upd_ne ndt.symm).trans hT6)
                · exact NewL.upd (nL6.updD hD6) hM7 oL
          · rintro σ H2 ⟨v7, rfl, s6, hD6, hM6, hT6, nL6⟩
            rw [List.take_length] at hD6 hM6
            have met6 : Met F cs (visitAll cs met sd.2) := met_.visitAll fun n hn => hsin.2 n hn
            have hhas := fun n hn => visitAll_has cs sd.2 met n hn
            have hpre := visitAll_pre cs sd.2 met
            generalize visitAll cs met sd.2 = m6 at hD6 hM6 met6 hhas hpre hloop
            have hm6 := met6.len
            have hwf := f5
            -- told.append((list(word), [..]))
            refine ⟨_, rfl, .inl ⟨rfl, _, SqL.of hT6⟩, ?_⟩
            refine ⟨_, rfl, _, rfl, _, rfl, ⟨_, SqL.of (Same.ways s6 f6)⟩, fun q2 hq2 => ?_⟩
            refine lc_map (walk_listWs (K := K) (a := p2) (ws := sd.2)) hq2 (by have := hsin.1; omega) (fun H3 s8 => Same.ways (s6.trans s8) f6) (fun j => vW (newWay cs m6 (sd.2[j]?).join)) ?_ ?_
            · rintro j x H3 H4 kk hj s8 ⟨y, hy, rfl, rfl⟩ hk
              have hk' := hk H4 (Same.refl H4)
              rw [hy] at hk'
              refine ⟨rfl, _, rfl, rfl, _, rfl, ?_⟩
              rw [vW_is]
              cases y with
              | none => exact iteT hk'
              | some n =>
                have hns := List.mem_of_getElem? hy
                have hn := hsin.2 n hns
                refine iteF ⟨_, rfl, _, rfl, _, rfl, _, _, _, _, rfl, rfl, SqL.of (Same.ints (s6.trans s8) hc), atI_nat (ints_get (clsOf_get (by omega))), d, _, rfl, (by
                  have e := DGet.k (k := (Sum.inl ((clsOf cs n : Nat) : Int) : L2.Key)) (s8 _ _ hD6)
                  rw [QD.valV_dictFrom, if_pos (mem_keysOf.mpr (hhas n hns)), idx_keysOf, Nat.zero_add] at e
                  exact e), hk'⟩
            · intro H3 s8 hq3
              rw [range_map_get _ sd.2 (fun w => vW (newWay cs m6 w)) (fun j x hx => by rw [hx]; rfl)] at hq3
              refine ⟨by show 2 ≤ sizeLine; decide, fun q3 hq3' => ?_⟩
              have s9 := Same.new s8 (o := .tup [V.ref p1, V.ref q2]) hq3'
              have s10 := s6.trans s9
              have n2 : H2 q2 = none := hq2
              have n3 : H2 q3 = none := s8.free hq3'
              have n2' : H q2 = none := s6.free n2
              have e1 : WordAt (upd H3 q3 (.tup [V.ref p1, V.ref q2])) p1 sd.1 := Same.word s10 f5
              have e2 : (upd H3 q3 (.tup [V.ref p1, V.ref q2])) q2 = some (.lst (vWs (newStd cs m6 sd).2)) := by
                rw [upd_ne (ne_of_none hq3 hq3'), hq3]
                unfold vWs newStd
                rw [List.map_map]
                rfl
              have nq12 : p1 ≠ q2 := ne_of_none f5 n2'
              have nn := newL_snoc nL6 s9 ow n2 nq12 (t := q3) (s := newStd cs m6 sd) upd_same e1 e2 (fr0 _ (s6.free n3)) fw (fr0 _ n2')
              have oT' := not_inner_snoc (t := q3) oT (ne_of_none f5 t0).symm (ne_of_none hT6 n2)
              have oL' := not_inner_snoc (t := q3) oL (ne_of_none f5 l0).symm (ne_of_none hM6 n2)
              have hT9 := s9 _ _ hT6
              refine ⟨t, _, _, rfl, rfl, hT9, sz_lt (by rw [List.length_map]; omega), ?_⟩
              obtain ⟨tl, hpre⟩ := hpre
              have hlen6 : met.length ≤ m6.length := by rw [hpre, List.length_append]; omega
              refine ⟨_, ?_, m6, told ++ [newStd cs m6 sd], L ++ [(q3, p1, q2)], _, _, _, rfl, Same.mut s10 t0, ?_, ?_, ?_, nn.upd hT9 oT', by rw [← ew]; exact tl_.snoc hLl hmt hpre n2', oT', oL', met6, ?_, rfl, f, ?_, hloop⟩
              · rw [List.length_append, List.length_singleton]
                omega
              · exact (upd_ne ndt).trans (s9 _ _ hD6)
              · exact (upd_ne nlt).trans (s9 _ _ hM6)
              · rw [upd_same, List.map_append]
                rfl
              · rw [List.length_append, List.length_singleton]
                omega
              · rw [List.length_append, List.length_singleton]
                omega
        · rw [if_neg (by simp; omega)]
          rw [if_neg hlt] at hloop
          rw [← hloop] at k
          exact ⟨_, rfl, k t L H1 s5 ⟨hT, nL, fr0 _ t0, oT⟩⟩
end
end Law
end

section
set_option Elab.async false
set_option linter.all false
set_option maxRecDepth 100000
set_option maxHeartbeats 8000000
namespace Law
open PySem PySem.Spec PyProof.Rows L2 LamX QB QM
abbrev Tof {K : PySem.W.Frag} {mg : Str → Option Value} (X : TX K mg) : List (Addr × Str) := [(X.lam_P, ("without_needless_ways" : Str) ++ ".<locals>." ++ "<lambda>")]
section
variable {P : Program} {w : World} {K : PySem.W.Frag} {mg : Str → Option Value} {base : Heap}
theorem rep_flat (n : Nat) (x : V) : (List.replicate n [x]).flatten = List.replicate n x := by
  induction n with
  | zero => rfl
  | succ n ih => rw [List.replicate_succ, List.flatten_cons, ih, List.replicate_succ]; rfl
theorem ixN_of {n j : Nat} (h : j < n) : ixN n (j : Int) = some j := by
  unfold ixN
  rw [if_pos (by omega), if_pos (by omega), Int.toNat_natCast]
theorem set_same {α : Type} {l : List α} {k : Nat} {x : α} (h : l[k]? = some x) : l.set k x = l := by
  refine List.ext_getElem? fun i => ?_
  by_cases e : k = i
  · subst e
    rw [List.getElem?_set_self (List.getElem?_eq_some_iff.mp h).1, h]
  · rw [List.getElem?_set_ne e]
theorem vWs_set (ws : Ways) (k : Nat) (w : Option Nat) : (vWs ws).set k (vW w) = vWs (ws.set k w) := (List.map_set ..).symm
theorem tri_get {L : List Tri} {k : Nat} {x : Tri} (h : L[k]? = some x) : (L.map fun x => V.ref x.1)[k]? = some (.ref x.1) := by
  rw [List.getElem?_map, h]
  rfl
/-- tags that are texts, words of tags -/
structure WordsOk (tags : List Str) (F : Form) : Prop where
  txt : ∀ t ∈ tags, PyData.strOk t = true
  sub : ∀ s ∈ F, ∀ t ∈ s.1, t ∈ tags
  len : ∀ s ∈ F, s.1.length ≤ 5000
theorem WordsOk.ok {tags : List Str} {F : Form} (o : WordsOk tags F) {k : Nat} {s : Std} (h : F[k]? = some s) : ∀ t ∈ s.1, PyData.strOk t = true := fun t ht => o.txt t (o.sub s (mem_of h) t ht)
def spNeedless (T : List (Addr × Str)) : Sp := fun vs H Q _ => ∃ (a b : Addr) (tags : List Str) (F : Form), vs = [.ref a, .ref b] ∧ WordAt H a tags ∧ FormAt H b F ∧ Good tags F ∧ WordsOk tags F ∧ tags.length ≤ 100 ∧ Tabs T H ∧
  ∀ (p : Addr) (L : List Tri) (H' : Hp), Ext T H H' → Tabs T H' → NewF H H' p L (needless tags F) → Q (.ref p) H'
theorem ok_without_needless_ways (X : TX K mg) (TB : LamX.TabB base mg X.lam_c X.lam_P) : FnOk P w K mg base CX0 2 X.d_without_needless_ways.a X.d_without_needless_ways.fd ["tags", "standings"] (spNeedless (Tof X)) := by
  have nd := sc_without_needless_ways.nd
  refine X.lam_F.ok sc_without_needless_ways (fun vs H Q E h => ?_) (fun A outer s H vs Q E hr h => ?_)
  · obtain ⟨a, b, tags, F, rfl, _⟩ := h
    rfl
  · obtain ⟨a, b, tags, F, rfl, hT, hF, g, ok, htl, tb, k⟩ := h
    refine ⟨_, (pss_cons (ps_set (i := 2) nd rfl (Or.inl rfl) (pe_call (ok_copied X) (hr.mono (by decide)) rfl X.d_copied.mg X.d_copied.F.kp X.d_copied.b .nil pass0 (pa_cons (pv 1) pa_nil))) (pss_cons (ps_set (i := 3) nd rfl (Or.inl rfl) (pe_op op_rep (pe_lst (pa_cons pe_bl pa_nil)) (pe_callB (QB.call_lenK K) (by rfl) X.n_len PySem.boot_len (pa_cons (pv 1) pa_nil)))) (pss_cons (ps_for PassesOwn.never rfl (QB.pi_listK K (QL.pe_sortLamK (i := 1) (T := Tof X) K (by rfl) X.n_sorted X.n_len (QL.pe_range1 (by rfl) X.n_range (pe_callB (QB.call_lenK K) (by rfl) X.n_len PySem.boot_len (pa_cons (pv 1) pa_nil))) rfl rfl TB rfl (List.mem_singleton.mpr rfl) (fun p hp _ => by cases List.mem_singleton.mp hp; rfl) hr)) (pg_name (i := 4) nd rfl (Or.inl rfl)) (pss_cons (ps_asg (pe_ix (QB.ix_listK K) (pv 2) (pv 4) (fun _ _ => rfl)) (pg_tup (by rfl) (pgs_cons (pg_name (i := 5) nd rfl (Or.inl rfl)) (pgs_cons (pg_name (i := 6) nd rfl (Or.inl rfl)) (pgs_nil))))) (pss_cons (ps_for PassesOwn.never rfl (QB.pi_enumK K (by rfl) X.n_enumerate (pa_cons (pv 0) pa_nil)) (pg_tup (by rfl) (pgs_cons (pg_name (i := 7) nd rfl (Or.inl rfl)) (pgs_cons (pg_name (i := 8) nd rfl (Or.inl rfl)) (pgs_nil)))) (pss_cons (ps_set (i := 9) nd rfl (Or.inl rfl) (pe_ix (QB.ix_listK K) (pv 6) (pv 7) (fun _ _ => rfl))) (pss_one (ps_if (PW.pt (pw_and (pt_cmpR op_notN (pv 9) pe_non (nomark _)) (pw_and (pt_val (pe_ix (QB.ix_listK K) (pv 3) (pv 9) (fun _ _ => rfl))) (pw_and1 (pt_cmpR (QB.op_eqDK K hr.units) (pe_ix (QB.ix_tupK K) (pe_ix (QB.ix_listK K) (pv 1) (pv 9) (fun _ _ => rfl)) pe_int (fun _ _ => rfl)) (pe_op op_cat (pv 5) (pe_lst (pa_cons (pv 8) pa_nil))) (nomark _)))))) (pss_one (ps_asg pe_non (pg_sub (pv 6) (pv 7) set_list))) pss_nil)))) (pss_one (ps_asg (pe_call (ok_is_settled_at X) (hr.mono (by decide)) rfl X.d_is_settled_at.mg X.d_is_settled_at.F.kp X.d_is_settled_at.b .nil pass0 (pa_cons (pe_ix (QB.ix_listK K) (pv 2) (pv 4) (fun _ _ => rfl)) pa_nil)) (pg_sub (pv 3) (pv 4) set_list)))))) (pss_one (ps_ret (pv 2)))))), ?_⟩
    try dsimp only [Cx.nox, Cx.wish, cxOf]
    have hlen := g.pos
    have hsm := g.small
    -- needed = copied(standings); settled = [False] * len(standings)
    refine ⟨_, rfl, b, F, rfl, hF, by omega, fun p L H1 s1 nF => ?_⟩
    obtain ⟨vs1, hv1, hvl1⟩ := FormAt.lst (Same.form s1 hF)
    refine ⟨by show 1 ≤ sizeLine; decide, fun q0 hq0 => ?_⟩
    have s2 := Same.new s1 (o := .lst [V.bl false]) hq0
    refine ⟨_, rfl, _, _, rfl, .inl (SqL.of ((same_new hq0) _ _ hv1)), ?_⟩
    refine ⟨_, _, _, rfl, rfl, upd_same, by omega, by omega, by rw [Int.toNat_natCast, hvl1]; exact sz_le (by simp; omega), fun q hq => ?_⟩
    rw [Int.toNat_natCast, hvl1, rep_flat]
    have s3 := Same.new s2 (o := .lst (List.replicate F.length (V.bl false))) hq
    have s13 : Same H1 (upd (upd H1 q0 (.lst [V.bl false])) q (.lst (List.replicate F.length (V.bl false)))) := Same.new (same_new hq0) hq
    have nF3 := nF.same s13
    have q0n : H q = none := s2.free hq
    have npq : p ≠ q := ne_of_none ((same_new hq0) _ _ nF.lst) hq
    have qin : q ∉ inner L := fun z => by
      obtain ⟨xs, hx⟩ := nF.all.there z
      exact ne_of_none ((same_new hq0) _ _ hx) hq rfl
    have hq3 : (upd (upd H1 q0 (.lst [V.bl false])) q (.lst (List.replicate F.length (V.bl false)))) q = some (.lst ((List.replicate F.length false).map V.bl)) := by rw [upd_same, List.map_replicate]
    generalize (upd (upd H1 q0 (.lst [V.bl false])) q (.lst (List.replicate F.length (V.bl false)))) = H3 at s3 nF3 hq3 s13
    -- sorted(..)
    obtain ⟨ts, hts, hpr⟩ := Same.form s3 hF
    have htsl := Paired.length hpr
    refine ⟨_, rfl, _, _, rfl, .inl (SqL.of hts), _, rfl, fun r hr0 => ?_⟩
    rw [List.length_map, htsl]
    have s4 := Same.new s3 (o := .rng 0 (F.length : Int)) hr0
    have s34 : Same H3 (upd H3 r (.rng 0 (F.length : Int))) := same_new hr0
    refine ⟨r, F.length, b, ts, keyOf F, rfl, upd_same, by omega, rfl, SqL.of (s34 _ _ hts), htsl, fun j t ht => ?_, tb.ext s4, fun p5 H5 e5 t5 n5 => ?_⟩
    · obtain ⟨s, hs, x, y, h1, h2, h3⟩ := paired_get' hpr ht
      refine ⟨x, [.ref y], vS s.1, SqT.of (s34 _ _ h1), SqL.of (s34 _ _ h2), ?_⟩
      unfold keyOf
      rw [vS_len]
      have hj := (List.getElem?_eq_some_iff.mp hs).1
      rw [stdOf_get hj] at hs
      cases hs
      rfl
    · have E5 : Ext (Tof X) H H5 := (Ext.of s4).trans ⟨e5, fun _ => t5⟩
      have E35 : Ext (Tof X) H3 H5 := (Ext.of s34).trans ⟨e5, fun _ => t5⟩
      have f5 : Fresh H p5 := E5.free n5
      have E6 := E5.new' (o := .lst ((byLen F).map fun (j : Nat) => V.int (j : Int))) n5
      have E56 : Ext (Tof X) H3 (upd H5 p5 (.lst ((byLen F).map fun (j : Nat) => V.int (j : Int)))) := E35.new' n5
      have T6 := E6.2 tb
      refine ⟨p5, rfl, ⟨_, SqL.of upd_same⟩, ?_⟩
      have nF6 := nF3.ext E56
      have hq6 := E56.lst hq3
      have n5p : p ≠ p5 := ne_of_none (E35.lst nF3.lst) n5
      have n5q : q ≠ p5 := ne_of_none (E35.lst hq3) n5
      have n5i : p5 ∉ inner L := fun z => by
        obtain ⟨xs, hx⟩ := nF3.all.there z
        exact ne_of_none (E35.lst hx) n5 rfl
      have hblen := byLen_len F
      refine for_it (walk_list (K := K) (a := p5) (xs := (byLen F).map fun (j : Nat) => V.int (j : Int))) (fun i σ H' => ∃ (v4 v5 v6 v7 v8 v9 : Option V), σ = [some (.ref a), some (.ref b), some (.ref p), some (.ref q), v4, v5, v6, v7, v8, v9] ∧ Ext (Tof X) H H' ∧ Tabs (Tof X) H' ∧
        H' p = some (.lst (L.map fun x => V.ref x.1)) ∧ NewL H H' L (needFold tags F ((byLen F).take i)).1 ∧ H' q = some (.lst ((needFold tags F ((byLen F).take i)).2.map V.bl)) ∧ H' p5 = some (.lst ((byLen F).map fun (j : Nat) => V.int (j : Int))))
        ⟨none, none, none, none, none, none, rfl, E6, T6, nF6.lst, nF6.all, hq6, upd_same⟩ (fun i σ H' _ ⟨_, _, _, _, _, _, _, _, _, _, _, _, h⟩ => SqL.of h) ?_ ?_
      · rintro i x σ H7 H8 hi ⟨v4, v5, v6, v7, v8, v9, rfl, E7, T7, hp7, nL7, hq7, h57⟩ ⟨rfl, hx⟩
        rw [List.length_map, hblen] at hi
        have hbi : (byLen F)[i]? = some ((byLen F)[i]'(by omega)) := List.getElem?_eq_getElem _
        have hstep : needFold tags F ((byLen F).take (i + 1)) = needStep tags F (needFold tags F ((byLen F).take i)) ((byLen F)[i]'(by omega)) := by
          unfold needFold
          rw [List.take_succ, hbi, List.foldl_append]
          rfl
        have hkF : (byLen F)[i]'(by omega) < F.length := byLen_lt (List.mem_of_getElem? hbi)
        have pr : Pruned tags F (needFold tags F ((byLen F).take i)) := Pruned.fold g _ _ (Pruned.start tags F) fun k hk => byLen_lt (List.mem_of_mem_take hk)
        rw [List.getElem?_map, hbi] at hx
        cases hx
        rw [hstep]
        generalize (byLen F)[i]'(by omega) = kk at hkF
        generalize needFold tags F ((byLen F).take i) = st at nL7 hq7 pr
        obtain ⟨N, S⟩ := st
        have hNl : N.length = F.length := pr.len
        have hSl : S.length = F.length := pr.lenS
        have hN : N[kk]? = some (stdOf N kk) := stdOf_get (by omega)
        obtain ⟨w1, w2, w3⟩ := pr.word kk _ hN
        have hsl : (stdOf N kk).2.length = tags.length := w2.trans (g.ways (stdOf_get hkF))
        have hPl : (pruneWays tags F S (stdOf N kk)).length = (stdOf N kk).2.length := (pruneWays_len hsl).trans hsl.symm
        have hwF : (stdOf N kk).1.length ≤ 5000 := by rw [w1]; exact ok.len _ (mem_of (stdOf_get hkF))
        have hwok : ∀ t ∈ (stdOf N kk).1, PyData.strOk t = true := by rw [w1]; exact ok.ok (stdOf_get hkF)
        have hstp : needStep tags F (N, S) kk = (N.set kk ((stdOf N kk).1, pruneWays tags F S (stdOf N kk)), S.set kk ((pruneWays tags F S (stdOf N kk)).all Option.isNone)) := rfl
        rw [hstp]
        have hPg : ∀ (j : Nat) (t : Str) (y : Option Nat), tags[j]? = some t → (stdOf N kk).2[j]? = some y → (pruneWays tags F S (stdOf N kk))[j]? = some (pruneWay F S (stdOf N kk).1 t y) := fun j t y h1 h2 => pruneWays_get h1 h2
        generalize pruneWays tags F S (stdOf N kk) = Pw at hPl hPg
        generalize stdOf N kk = sd at hN w1 w2 w3 hsl hPl hwF hwok hPg
        obtain ⟨x3, hx3, g1, g2, g3⟩ := NewL.get nL7 hN
        have hfr := nL7.new x3 (List.mem_of_getElem? hx3)
        have hin3 : x3.2.2 ∈ inner L := List.mem_flatMap.mpr ⟨x3, List.mem_of_getElem? hx3, by simp⟩
        have np3 : p ≠ x3.2.2 := fun z => nF.out (z ▸ hin3)
        have nq3 : q ≠ x3.2.2 := fun z => qin (z ▸ hin3)
        have n53 : p5 ≠ x3.2.2 := fun z => n5i (z ▸ hin3)
        refine ⟨_, rfl, _, rfl, _, _, _, _, rfl, rfl, SqL.of hp7, atI_nat (tri_get hx3), ?_⟩
        refine ⟨x3.1, _, rfl, SqT.of g1, rfl, _, _, rfl, _, _, rfl, rfl, ?_⟩
        refine ⟨_, rfl, _, _, rfl, SqL.of (E7.word hT), ?_⟩
        refine for_it (walk_enumW (K := K) (a := a) (w := tags)) (fun j σ H' => ∃ (v7 v8 v9 : Option V), σ = [some (.ref a), some (.ref b), some (.ref p), some (.ref q), some (.int (kk : Int)), some (.ref x3.2.1), some (.ref x3.2.2), v7, v8, v9] ∧ Ext (Tof X) H H' ∧
          H' p = some (.lst (L.map fun x => V.ref x.1)) ∧ NewL H H' L (N.set kk (sd.1, Pw.take j ++ sd.2.drop j)) ∧ H' q = some (.lst (S.map V.bl)) ∧ H' p5 = some (.lst ((byLen F).map fun (j : Nat) => V.int (j : Int))))
          ⟨v7, v8, v9, rfl, E7, hp7, by rw [show (sd.1, Pw.take 0 ++ sd.2.drop 0) = sd from rfl, set_same hN]; exact nL7, hq7, h57⟩ (fun j σ H' _ ⟨_, _, _, _, E, _⟩ => E.word hT) ?_ ?_
        · rintro j v σ H9 H10 hj ⟨u7, u8, u9, rfl, E9, hp9, nL9, hq9, h59⟩ ⟨tp, t, ht, ntp, rfl, rfl⟩
          have htt : t ∈ tags := List.mem_of_getElem? ht
          have s9 : Same H9 (upd H9 tp (.tup [.int (j : Int), .str t])) := same_new ntp
          have E10 := E9.trans (.of s9)
          have nL10 := nL9.same s9
          have hp10 := s9 _ _ hp9
          have hq10 := s9 _ _ hq9
          have h510 := s9 _ _ h59
          refine ⟨tp, _, rfl, SqT.of upd_same, rfl, _, _, rfl, _, _, rfl, rfl, ?_⟩
          generalize upd H9 tp (.tup [.int (j : Int), .str t]) = H10 at s9 E10 nL10 hp10 hq10 h510
          have hj2 : j < sd.2.length := by omega
          have hy : sd.2[j]? = some sd.2[j] := List.getElem?_eq_getElem hj2
          have hset : (N.set kk (sd.1, Pw.take j ++ sd.2.drop j))[kk]? = some (sd.1, Pw.take j ++ sd.2.drop j) := List.getElem?_set_self (by omega)
          obtain ⟨x', hx', y1, y2, y3⟩ := nL10.get hset
          rw [hx3] at hx'
          cases hx'
          have hmix : (Pw.take j ++ sd.2.drop j)[j]? = some sd.2[j] := (mix_get hPl hj2).trans hy
          have hPj := hPg j t _ ht hy
          refine ⟨_, rfl, _, rfl, _, _, _, _, rfl, rfl, SqL.of y3, atI_nat (vWs_get hmix), ?_⟩
          refine ⟨_, rfl, rfl, _, rfl, ?_⟩
          rw [vW_is]
          -- the way stays
          have stay : ∀ (H' : Hp) (u9 : V), Same H10 H' → Pw[j]? = some sd.2[j] → ∃ (v7 v8 v9 : Option V), [some (V.ref a), some (.ref b), some (.ref p), some (.ref q), some (.int (kk : Int)), some (.ref x3.2.1), some (.ref x3.2.2), some (.int (j : Int)), some (.str t), some u9] = [some (.ref a), some (.ref b), some (.ref p), some (.ref q), some (.int (kk : Int)), some (.ref x3.2.1), some (.ref x3.2.2), v7, v8, v9] ∧ Ext (Tof X) H H' ∧
              H' p = some (.lst (L.map fun x => V.ref x.1)) ∧ NewL H H' L (N.set kk (sd.1, Pw.take (j + 1) ++ sd.2.drop (j + 1))) ∧ H' q = some (.lst (S.map V.bl)) ∧ H' p5 = some (.lst ((byLen F).map fun (j : Nat) => V.int (j : Int))) := fun H' u9 s' e =>
            ⟨_, _, _, rfl, E10.trans (.of s'), s' _ _ hp10, by rw [← mix_same hPl e hy]; exact nL10.same s', s' _ _ hq10, s' _ _ h510⟩
          generalize sd.2[j] = y at hy hmix hPj stay
          cases y with
          | none => exact iteF (stay H10 _ (Same.refl _) hPj)
          | some n =>
            have hnF : n < F.length := g.to _ (mem_of (stdOf_get hkF)) n (w3 n (List.mem_of_getElem? hy))
            have hSn : (S.map V.bl)[n]? = some (.bl (S.getD n false)) := by
              rw [List.getElem?_map, List.getElem?_eq_getElem (by omega), List.getD_eq_getElem?_getD, List.getElem?_eq_getElem (by omega)]
              rfl
            refine iteT ?_
            refine ⟨_, rfl, _, rfl, _, _, _, _, rfl, rfl, SqL.of hq10, atI_nat hSn, _, rfl, ?_⟩
            have hPj' : Pw[j]? = some (if (S.getD n false && decide ((stdOf F n).1 = sd.1 ++ [t])) = true then none else some n) := hPj
            cases hSb : S.getD n false with
            | false =>
              rw [hSb, Bool.false_and, if_neg Bool.false_ne_true] at hPj'
              exact iteF (stay H10 _ (Same.refl _) hPj')
            | true =>
              rw [hSb, Bool.true_and] at hPj'
              refine iteT ?_
              obtain ⟨vs2, tt, z1, z2, f1, f2, f3, f4, f5, f6⟩ := (E10.form hF).at (stdOf_get hnF)
              refine ⟨_, rfl, _, rfl, _, _, _, _, rfl, rfl, SqL.of f1, atI_nat f3, _, _, _, _, rfl, rfl, SqT.of f4, rfl, ?_⟩
              refine ⟨_, rfl, _, rfl, by show 1 ≤ sizeLine; decide, fun r1 hr1 => ?_⟩
              have sA : Same H10 (upd H10 r1 (.lst [V.str t])) := same_new hr1
              refine ⟨_, _, _, _, rfl, rfl, sA _ _ y2, upd_same, by rw [vS_len]; exact sz_le (by simp; omega), fun r2 hr2 => ?_⟩
              have sB : Same H10 (upd (upd H10 r1 (.lst [V.str t])) r2 (.lst (vS sd.1 ++ [V.str t]))) := Same.new sA hr2
              have hw2 : WordAt (upd (upd H10 r1 (.lst [V.str t])) r2 (.lst (vS sd.1 ++ [V.str t]))) r2 (sd.1 ++ [t]) := by
                unfold WordAt
                rw [upd_same, ← vS_append]
                rfl
              generalize upd (upd H10 r1 (.lst [V.str t])) r2 (.lst (vS sd.1 ++ [V.str t])) = H11 at sB hw2
              refine eq_words (Same.word sB f5) hw2 (ok.ok (stdOf_get hnF)) (fun u hu => ?_) ⟨_, rfl, ?_⟩
              · rcases List.mem_append.mp hu with hu | hu
                · exact hwok u hu
                · rw [List.mem_singleton.mp hu]
                  exact ok.txt t htt
              · by_cases he : (stdOf F n).1 = sd.1 ++ [t]
                · rw [if_pos (decide_eq_true he)] at hPj'
                  rw [if_pos (decide_eq_true he)]
                  have E11 := E10.trans (.of sB)
                  have nL11 := nL10.same sB
                  have y11 := Same.ways sB y3
                  refine ⟨_, rfl, _, rfl, x3.2.2, _, _, j, rfl, rfl, y11, ixN_of (by rw [vWs_len, List.length_append, List.length_take, List.length_drop]; omega), ?_⟩
                  have en := nL11.setWays (ws := (Pw.take j ++ sd.2.drop j).set j none) hx3 hset
                  rw [List.set_set, mix_set hPl hPj'] at en
                  have ew : (vWs (Pw.take j ++ sd.2.drop j)).set j .non = vWs (Pw.take (j + 1) ++ sd.2.drop (j + 1)) := by
                    rw [show V.non = vW none from rfl, vWs_set, mix_set hPl hPj']
                  rw [ew]
                  exact ⟨_, _, _, rfl, E11.mut hfr.2.2 y11, (upd_ne np3).trans (sB _ _ hp10), en, (upd_ne nq3).trans (sB _ _ hq10), (upd_ne n53).trans (sB _ _ h510)⟩
                · rw [if_neg (by simpa using he)] at hPj'
                  rw [if_neg (by simpa using he)]
                  exact stay H11 _ sB hPj'
        · rintro σ H9 ⟨u7, u8, u9, rfl, E9, hp9, nL9, hq9, h59⟩
          have hfull : Pw.take tags.length ++ sd.2.drop tags.length = Pw := by
            rw [List.take_of_length_le (by omega), List.drop_eq_nil_of_le (by omega), List.append_nil]
          rw [hfull] at nL9
          have hset : (N.set kk (sd.1, Pw))[kk]? = some (sd.1, Pw) := List.getElem?_set_self (by omega)
          obtain ⟨x', hx', y1, y2, y3⟩ := nL9.get hset
          rw [hx3] at hx'
          cases hx'
          refine ⟨_, rfl, _, rfl, _, _, _, _, rfl, rfl, SqL.of hp9, atI_nat (tri_get hx3), ?_⟩
          refine ⟨_, _, _, Pw, rfl, y1, y3, by omega, fun H10 s10 => ?_⟩
          refine ⟨_, rfl, _, rfl, q, _, _, kk, rfl, rfl, s10 _ _ hq9, ixN_of (by rw [List.length_map]; omega), ?_⟩
          have E10 := E9.trans (.of s10)
          have E11 := E10.mut (o := .lst ((S.map V.bl).set kk (.bl (Pw.all Option.isNone)))) (.of q0n) (s10 _ _ hq9)
          refine ⟨_, _, _, _, _, _, rfl, E11, E11.2 tb, (upd_ne npq).trans (s10 _ _ hp9), (nL9.same s10).upd (s10 _ _ hq9) qin, ?_, (upd_ne n5q.symm).trans (s10 _ _ h59)⟩
          rw [upd_same, List.map_set]
      · rintro σ H7 ⟨v4, v5, v6, v7, v8, v9, rfl, E7, T7, hp7, nL7, hq7, h57⟩
        rw [List.length_map, hblen, ← hblen, List.take_length] at nL7
        exact ⟨_, rfl, k p L H7 E7 T7 ⟨hp7, nL7, nF.new, nF.out⟩⟩
end
end Law
end

section
set_option Elab.async false
set_option linter.all false
set_option maxRecDepth 100000
set_option maxHeartbeats 8000000
namespace Law
open PySem PySem.Spec PyProof.Rows L2 LamX QB QM
section
variable {P : Program} {w : World} {K : PySem.W.Frag} {mg : Str → Option Value} {base : Heap}
theorem pruned_needless {tags : List Str} {F : Form} (g : Good tags F) : Pruned tags F (needFold tags F (byLen F)) := Pruned.fold g _ _ (Pruned.start tags F) fun k hk => byLen_lt hk
theorem needless_len {tags : List Str} {F : Form} (g : Good tags F) : (needless tags F).length = F.length := (pruned_needless g).len
theorem needless_std {tags : List Str} {F : Form} (g : Good tags F) {s : Std} (h : s ∈ needless tags F) : ∃ s' ∈ F, s.1 = s'.1 ∧ s.2.length = s'.2.length ∧ ∀ n, some n ∈ s.2 → some n ∈ s'.2 := by
  obtain ⟨k, hk, e⟩ := List.mem_iff_getElem.mp h
  have e' : (needless tags F)[k]? = some s := by rw [List.getElem?_eq_getElem hk, e]
  obtain ⟨h1, h2, h3⟩ := (pruned_needless g).word k s e'
  have hkF : k < F.length := by rw [← needless_len g]; exact hk
  exact ⟨stdOf F k, mem_of (stdOf_get hkF), h1, h2, h3⟩
theorem needless_in {tags : List Str} {F : Form} (g : Good tags F) (ht : tags.length ≤ 100) : WaysIn (needless tags F) := fun s hs => by
  obtain ⟨s', h1, h2, h3, h4⟩ := needless_std g hs
  exact ⟨by rw [h3, g.len s' h1]; exact ht, fun n hn => by rw [needless_len g]; exact g.to s' h1 n (h4 n hn)⟩
theorem alike_len {F : Form} : (alike F).length = F.length := by
  have all : ∀ (f many : Nat) (cs : List Nat), cs.length = F.length → (alikeLoop F f many cs).length = F.length := by
    intro f
    induction f with
    | zero => exact fun _ _ h => h
    | succ f ih =>
      intro many cs h
      unfold alikeLoop
      split
      · exact ih _ _ (part_len h)
      · exact h
  exact all _ _ _ (by rw [QD.numb_len]; exact List.length_map _)
def spLeast (T : List (Addr × Str)) : Sp := fun vs H Q _ => ∃ (a b : Addr) (tags : List Str) (F : Form), vs = [.ref a, .ref b] ∧ WordAt H a tags ∧ FormAt H b F ∧ Good tags F ∧ WordsOk tags F ∧ tags.length ≤ 100 ∧ Tabs T H ∧
  ∀ (p : Addr) (L : List Tri) (H' : Hp), Ext T H H' → Tabs T H' → NewF H H' p L (least tags F) → Q (.ref p) H'
theorem ok_least_form (X : TX K mg) (TB : LamX.TabB base mg X.lam_c X.lam_P) : FnOk P w K mg base CX0 4 X.d_least_form.a X.d_least_form.fd ["tags", "standings"] (spLeast (Tof X)) := by
  have nd := sc_least_form.nd
  refine X.d_least_form.F.ok sc_least_form (fun vs H Q E h => ?_) (fun cdv A outer s H vs Q E hr h => ?_)
  · obtain ⟨a, b, tags, F, rfl, _⟩ := h
    rfl
  · obtain ⟨a, b, tags, F, rfl, hT, hF, g, ok, htl, tb, k⟩ := h
    refine ⟨_, (pss_cons (ps_set (i := 2) nd rfl (Or.inl rfl) (pe_call (ok_without_needless_ways X TB) (hr.mono (by decide)) rfl X.d_without_needless_ways.mg X.d_without_needless_ways.F.kp X.d_without_needless_ways.b .nil pass0 (pa_cons (pv 0) (pa_cons (pv 1) pa_nil)))) (pss_one (ps_ret (pe_call (ok_in_order_met X) (hr.mono (by decide)) rfl X.d_in_order_met.mg X.d_in_order_met.F.kp X.d_in_order_met.b .nil pass0 (pa_cons (pv 2) (pa_cons (pe_call (ok_alike_classes X) (hr.mono (by decide)) rfl X.d_alike_classes.mg X.d_alike_classes.F.kp X.d_alike_classes.b .nil pass0 (pa_cons (pv 2) pa_nil)) pa_nil)))))), ?_⟩
    try dsimp only [Cx.nox, Cx.wish, cxOf]
    have hsm := g.small
    have hpos := g.pos
    refine ⟨_, rfl, _, rfl, a, b, tags, F, rfl, hT, hF, g, ok, htl, tb, fun p L H1 e1 t1 n1 => ?_⟩
    have hlen := needless_len g
    have hin := needless_in g htl
    have hwl : ∀ s ∈ needless tags F, s.1.length ≤ 10000 := fun s hs => by
      obtain ⟨s', h1, h2, _⟩ := needless_std g hs
      rw [h2]
      have := ok.len s' h1
      omega
    refine ⟨_, rfl, _, rfl, p, needless tags F, rfl, n1.form, by omega, by omega, hin, hwl, fun c H2 s2 nc hc => ?_⟩
    refine ⟨p, c, needless tags F, alike (needless tags F), H, L, rfl, n1.same s2, fun q hq => (e1.trans (.of s2)).free hq, hc, alike_len, by omega, by omega, hin, fun q L2 H3 s3 n3 => ?_⟩
    have e3 := (e1.trans (.of s2)).trans (.of s3)
    exact k q L2 H3 e3 (e3.2 tb) n3
end
end Law
end

section
set_option Elab.async false
set_option linter.all false
set_option maxRecDepth 100000
set_option maxHeartbeats 8000000
namespace Law
open PySem PySem.Spec PyProof.Rows L2 LamX QB QM
theorem kit_int_int {K : PySem.W.Frag} : PySem.W.kitOne K (.type "int") (.type "int") = some true := kit_ty (by decide +kernel)
theorem kit_int_bool {K : PySem.W.Frag} : PySem.W.kitOne K (.type "int") (.type "bool") = some false := kit_ty (by decide +kernel)
theorem kit_list_list {K : PySem.W.Frag} : PySem.W.kitOne K (.type "list") (.type "list") = some true := kit_ty (by decide +kernel)
theorem kit_str_str {K : PySem.W.Frag} : PySem.W.kitOne K (.type "str") (.type "str") = some true := kit_ty (by decide +kernel)
theorem kit_tuple_tuple {K : PySem.W.Frag} : PySem.W.kitOne K (.type "tuple") (.type "tuple") = some true := kit_ty (by decide +kernel)
section
variable {P : Program} {w : World} {K : PySem.W.Frag} {mg : Str → Option Value} {base : Heap}
/-- is_number of a whole number -/
def spIsNumber : Sp := fun vs H Q _ => ∃ (n lo hi : Int), vs = [.int n, .int lo, .int hi] ∧ Q (.bl (decide (lo ≤ n ∧ n ≤ hi))) H
theorem ok_is_number (X : TX K mg) : FnOk P w K mg base CX0 1 X.d_is_number.a X.d_is_number.fd ["x", "least", "most"] spIsNumber := by
  have nd := sc_is_number.nd
  refine X.d_is_number.F.ok sc_is_number (fun vs H Q E h => ?_) (fun cdv A outer s H vs Q E hr h => ?_)
  · obtain ⟨n, lo, hi, rfl, _⟩ := h
    rfl
  · obtain ⟨n, lo, hi, rfl, k⟩ := h
    refine ⟨_, (pss_one (ps_ret (pe_and (pe_callB (QB.call_isiK K) (by rfl) X.n_isinstance QB.bo_isinstance (pa_cons (pv 0) (pa_cons (pe_bltn (v := .ty "int") (by rfl) X.n_int QB.bo_int rfl) pa_nil))) (pe_and (pe_not (pe_callB (QB.call_isiK K) (by rfl) X.n_isinstance QB.bo_isinstance (pa_cons (pv 0) (pa_cons (pe_bltn (v := .ty "bool") (by rfl) X.n_bool QB.bo_bool rfl) pa_nil)))) (pe_one (pe_chain op_le op_le (pv 1) (pv 0) (pv 2))))))), ?_⟩
    try dsimp only [Cx.nox, Cx.wish, cxOf]
    refine ⟨_, rfl, _, _, _, _, true, rfl, .ty "int", .base (.int n), kit_int_int, true, rfl, ?_⟩
    refine iteT ?_
    refine ⟨_, rfl, _, _, _, _, false, rfl, .ty "bool", .base (.int n), kit_int_bool, false, rfl, true, rfl, ?_⟩
    refine iteT ?_
    refine ⟨_, rfl, _, rfl, _, _, rfl, rfl, _, rfl, ?_⟩
    by_cases h1 : lo ≤ n
    · rw [if_pos (decide_eq_true h1)]
      refine ⟨_, rfl, _, _, rfl, rfl, ?_⟩
      have e : decide (lo ≤ n ∧ n ≤ hi) = decide (n ≤ hi) := by simp [h1]
      rw [e] at k
      exact k
    · rw [if_neg (by simpa using h1)]
      have e : decide (lo ≤ n ∧ n ≤ hi) = false := by simp [h1]
      rw [e] at k
      exact k
/-- is_list of a list -/
def spIsList : Sp := fun vs H Q _ => ∃ (a : Addr) (xs : List V) (lo hi : Int), vs = [.ref a, .int lo, .int hi] ∧ H a = some (.lst xs) ∧ Q (.bl (decide (lo ≤ (xs.length : Int) ∧ (xs.length : Int) ≤ hi))) H
theorem ok_is_list (X : TX K mg) : FnOk P w K mg base CX0 1 X.d_is_list.a X.d_is_list.fd ["x", "least", "most"] spIsList := by
  have nd := sc_is_list.nd
  refine X.d_is_list.F.ok sc_is_list (fun vs H Q E h => ?_) (fun cdv A outer s H vs Q E hr h => ?_)
  · obtain ⟨a, xs, lo, hi, rfl, _⟩ := h
    rfl
  · obtain ⟨a, xs, lo, hi, rfl, ha, k⟩ := h
    refine ⟨_, (pss_one (ps_ret (pe_and (pe_callB (QB.call_isiK K) (by rfl) X.n_isinstance QB.bo_isinstance (pa_cons (pv 0) (pa_cons (pe_bltn (v := .ty "list") (by rfl) X.n_list QB.bo_list rfl) pa_nil))) (pe_one (pe_chain op_le op_le (pv 1) (pe_callB (QB.call_lenK K) (by rfl) X.n_len PySem.boot_len (pa_cons (pv 0) pa_nil)) (pv 2)))))), ?_⟩
    try dsimp only [Cx.nox, Cx.wish, cxOf]
    refine ⟨_, rfl, _, _, _, _, true, rfl, .ty "list", .base (.lst ha), kit_list_list, true, rfl, ?_⟩
    refine iteT ?_
    refine ⟨_, rfl, _, rfl, _, _, rfl, .inl (SqL.of ha), _, _, rfl, rfl, _, rfl, ?_⟩
    by_cases h1 : lo ≤ (xs.length : Int)
    · rw [if_pos (decide_eq_true h1)]
      refine ⟨_, rfl, _, _, rfl, rfl, ?_⟩
      have e : decide (lo ≤ (xs.length : Int) ∧ (xs.length : Int) ≤ hi) = decide ((xs.length : Int) ≤ hi) := by simp [h1]
      rw [e] at k
      exact k
    · rw [if_neg (by simpa using h1)]
      have e : decide (lo ≤ (xs.length : Int) ∧ (xs.length : Int) ≤ hi) = false := by simp [h1]
      rw [e] at k
      exact k
def letters : Str := "abcdefghijklmnopqrstuvwxyz"
/-- a name of a tag -/
structure NameOk (t : Str) : Prop where
  pos : 1 ≤ t.length
  len : t.length ≤ 8
  all : ∀ c ∈ t.cps.toList, c ∈ letters.cps.toList
theorem NameOk.txt {t : Str} (h : NameOk t) : PyData.strOk t = true := by
  unfold PyData.strOk
  rw [← Array.all_toList, List.all_eq_true]
  intro c hc
  have := h.all c hc
  have small : ∀ c ∈ letters.cps.toList, decide (c < 0x110000) = true := by decide +kernel
  exact small c this
def spIsName : Sp := fun vs H Q _ => ∃ t : Str, vs = [.str t] ∧ NameOk t ∧ ∀ H', Same H H' → Q (.bl true) H'
theorem ok_is_name (X : TX K mg) : FnOk P w K mg base CX0 1 X.d_is_name.a X.d_is_name.fd ["x"] spIsName := by
  have nd := sc_is_name.nd
  refine X.d_is_name.F.ok sc_is_name (fun vs H Q E h => ?_) (fun cdv A outer s H vs Q E hr h => ?_)
  · obtain ⟨t, rfl, _⟩ := h
    rfl
  · obtain ⟨t, rfl, ho, k⟩ := h
    refine ⟨_, (pss_cons (ps_if (PW.pt (pw_or (pt_not (pt_val (pe_callB (QB.call_isiK K) (by rfl) X.n_isinstance QB.bo_isinstance (pa_cons (pv 0) (pa_cons (pe_bltn (v := .ty "str") (by rfl) X.n_str QB.bo_str rfl) pa_nil))))) (pw_or1 (pt_not (pt_chain op_le op_le pe_int (pe_callB call_len_str (by rfl) X.n_len PySem.boot_len (pa_cons (pv 0) pa_nil)) (pe_gc rfl X.c_MOST_LETTERS)))))) (pss_one (ps_ret pe_bl)) pss_nil) (pss_one (ps_ret (pe_callB (QB.cr_allK K rfl) (by rfl) X.n_all QB.bo_all (pa_cons (pe_lc (own := [("letter", 1)]) (g := gName 1) (tt := tYes) rfl nd (pi_str (pv 0)) (blkOk_by (N := ["x", "letter"]) (sc := defScope s_is_name) (by decide +kernel)) (fun _ _ _ _ _ => pg_name (i := 1) nd rfl (Or.inl rfl)) (fun _ _ _ _ _ => pts_nil) (fun _ _ _ _ _ => (pe_cmpR op_in_sign (pv 1) (pe_gc rfl X.c_LETTERS) rfl))) pa_nil))))), ?_⟩
    try dsimp only [Cx.nox, Cx.wish, cxOf]
    have h1 := ho.pos
    have h8 := ho.len
    refine ⟨_, rfl, _, _, _, _, true, rfl, .ty "str", .base (.str t), kit_str_str, true, rfl, ?_⟩
    refine iteF ?_
    refine ⟨_, rfl, t, rfl, sz_le (by omega), _, _, rfl, rfl, _, rfl, ?_⟩
    rw [if_pos (decide_eq_true (by omega))]
    refine ⟨_, _, rfl, rfl, _, rfl, ?_⟩
    rw [decide_eq_true (by omega : (t.length : Int) ≤ 8)]
    refine iteF ?_
    refine ⟨_, rfl, t, rfl, fun D hD => ?_⟩
    refine lc_map walk_str hD (by have e : t.cps.size = t.length := rfl; omega) (fun _ _ => True.intro) (fun i => .bl true) ?_ ?_
    · rintro i x H1 H2 kk hi s1 ⟨rfl, c, hc, rfl⟩ hk
      refine ⟨rfl, _, rfl, c, letters, rfl, rfl, ?_⟩
      rw [decide_eq_true (ho.all c (by
        have := List.mem_of_getElem? (show t.cps.toList[i]? = some c by simpa using hc)
        exact this))]
      exact hk _ (Same.refl _)
    · intro H1 s1 e
      have e2 : (List.range t.cps.size).map (fun _ => V.bl true) = (List.replicate t.cps.size true).map V.bl := by
        rw [List.map_replicate, List.map_const', List.length_range]
      refine ⟨_, List.replicate t.cps.size true, rfl, SqL.of (by rw [← e2]; exact e), ?_⟩
      have e3 : (List.replicate t.cps.size true).all id = true := by
        rw [List.all_eq_true]
        intro b hb
        rw [List.eq_of_mem_replicate hb]
        rfl
      rw [e3]
      exact k H1 s1

def spIsTag : Sp := fun vs H Q _ => ∃ (a : Addr) (tags : List Str) (t : Str), vs = [.ref a, .str t] ∧ WordAt H a tags ∧ Q (.bl (decide (t ∈ tags))) H
theorem ok_is_tag (X : TX K mg) : FnOk P w K mg base CX0 1 X.d_is_tag.a X.d_is_tag.fd ["tags", "x"] spIsTag := by
  have nd := sc_is_tag.nd
  refine X.d_is_tag.F.ok sc_is_tag (fun vs H Q E h => ?_) (fun cdv A outer s H vs Q E hr h => ?_)
  · obtain ⟨a, tags, t, rfl, _⟩ := h
    rfl
  · obtain ⟨a, tags, t, rfl, ha, k⟩ := h
    refine ⟨_, (pss_one (ps_ret (pe_and (pe_callB (QB.call_isiK K) (by rfl) X.n_isinstance QB.bo_isinstance (pa_cons (pv 1) (pa_cons (pe_bltn (v := .ty "str") (by rfl) X.n_str QB.bo_str rfl) pa_nil))) (pe_one (pe_cmpR (QB.op_inK K) (pv 1) (pv 0) rfl))))), ?_⟩
    try dsimp only [Cx.nox, Cx.wish, cxOf]
    refine ⟨_, rfl, _, _, _, _, true, rfl, .ty "str", .base (.str t), kit_str_str, true, rfl, ?_⟩
    refine iteT ?_
    refine ⟨_, rfl, _, rfl, a, vS tags, rfl, .inl (SqL.of ha), rfl, vS_flat, ?_⟩
    show Q (.bl (if false = true then !inV (.str t) (vS tags) else inV (.str t) (vS tags))) H
    rw [if_neg Bool.false_ne_true, inV_word]
    exact k
def spIsSubject : Sp := fun vs H Q _ => ∃ (a b : Addr) (tags wd : List Str), vs = [.ref a, .ref b] ∧ WordAt H a tags ∧ WordAt H b wd ∧ wd.length ≤ 10000 ∧ ∀ H', Same H H' → Q (.bl (wd.all fun t => decide (t ∈ tags))) H'
theorem ok_is_subject (X : TX K mg) : FnOk P w K mg base CX0 2 X.d_is_subject.a X.d_is_subject.fd ["tags", "x"] spIsSubject := by
  have nd := sc_is_subject.nd
  refine X.d_is_subject.F.ok sc_is_subject (fun vs H Q E h => ?_) (fun cdv A outer s H vs Q E hr h => ?_)
  · obtain ⟨a, b, tags, wd, rfl, _⟩ := h
    rfl
  · obtain ⟨a, b, tags, wd, rfl, ha, hb, hz, k⟩ := h
    refine ⟨_, (pss_one (ps_ret (pe_and (pe_callB (QB.call_isiK K) (by rfl) X.n_isinstance QB.bo_isinstance (pa_cons (pv 1) (pa_cons (pe_bltn (v := .ty "list") (by rfl) X.n_list QB.bo_list rfl) pa_nil))) (pe_one (pe_callB (QB.cr_allK K rfl) (by rfl) X.n_all QB.bo_all (pa_cons (pe_lc (own := [("tag", 2)]) (g := gName 2) (tt := tYes) rfl nd (QB.pi_listK K (pv 1)) (blkOk_by (N := ["tags", "x", "tag"]) (sc := defScope s_is_subject) (by decide +kernel)) (fun _ _ _ _ _ => pg_name (i := 2) nd rfl (Or.inl rfl)) (fun _ _ _ _ _ => pts_nil) (fun _ _ _ _ _ => (pe_call (ok_is_tag X) (hr.mono (by decide)) rfl X.d_is_tag.mg X.d_is_tag.F.kp X.d_is_tag.b .nil pass0 (pa_cons (pv 0) (pa_cons (pv 2) pa_nil))))) pa_nil)))))), ?_⟩
    try dsimp only [Cx.nox, Cx.wish, cxOf]
    refine ⟨_, rfl, _, _, _, _, true, rfl, .ty "list", .base (.lst hb), kit_list_list, true, rfl, ?_⟩
    refine iteT ?_
    refine ⟨_, rfl, _, rfl, ⟨_, SqL.of hb⟩, fun D hD => ?_⟩
    refine lc_map (walk_listW (K := K) (a := b) (w := wd)) hD (by omega) (fun H1 s1 => Same.word s1 hb) (fun i => .bl (decide ((wd[i]?).getD "" ∈ tags))) ?_ ?_
    · rintro i x H1 H2 kk hi s1 ⟨y, hy, rfl, rfl⟩ hk
      refine ⟨rfl, _, rfl, _, rfl, a, tags, y, rfl, Same.word s1 ha, ?_⟩
      have e := hk _ (Same.refl H2)
      rw [hy] at e
      exact e
    · intro H1 s1 e
      rw [range_map_get _ wd (fun t => .bl (decide (t ∈ tags))) (fun i x hx => by rw [hx]; rfl)] at e
      refine ⟨_, wd.map fun t => decide (t ∈ tags), rfl, SqL.of (by rw [e, List.map_map]; rfl), ?_⟩
      have e2 := k H1 s1
      rw [List.all_map]
      exact e2
/-- standings that may be passed -/
structure StdOk (tags : List Str) (n : Nat) (s : Std) : Prop where
  len : s.1.length ≤ 8
  sub : ∀ t ∈ s.1, t ∈ tags
  ways : s.2.length = tags.length
  to : ∀ m, some m ∈ s.2 → m < n
structure FormOk (tags : List Str) (F : Form) : Prop where
  pos : 1 ≤ F.length
  len : F.length ≤ 30
  all : ∀ s ∈ F, StdOk tags F.length s
structure TagsOk (tags : List Str) : Prop where
  pos : 1 ≤ tags.length
  len : tags.length ≤ 6
  nd : tags.Nodup
  names : ∀ t ∈ tags, NameOk t
theorem FormOk.good {tags : List Str} {F : Form} (f : FormOk tags F) : Good tags F := ⟨f.pos, fun s hs => (f.all s hs).ways, fun s hs n hn => (f.all s hs).to n hn, by have := f.len; omega⟩
theorem FormOk.words {tags : List Str} {F : Form} (f : FormOk tags F) (t : TagsOk tags) : WordsOk tags F := ⟨fun x hx => (t.names x hx).txt, fun s hs => (f.all s hs).sub, fun s hs => by have := (f.all s hs).len; omega⟩
def spIsStanding : Sp := fun vs H Q _ => ∃ (a x p1 p2 : Addr) (tags : List Str) (n : Nat) (s : Std), vs = [.ref a, .int (n : Int), .ref x] ∧ WordAt H a tags ∧ H x = some (.tup [.ref p1, .ref p2]) ∧ WordAt H p1 s.1 ∧ WaysAt H p2 s.2 ∧ StdOk tags n s ∧ tags.length ≤ 100 ∧ ∀ H', Same H H' → Q (.bl true) H'
theorem ok_is_standing (X : TX K mg) : FnOk P w K mg base CX0 3 X.d_is_standing.a X.d_is_standing.fd ["tags", "many", "x"] spIsStanding := by
  have nd := sc_is_standing.nd
  refine X.d_is_standing.F.ok sc_is_standing (fun vs H Q E h => ?_) (fun cdv A outer s H vs Q E hr h => ?_)
  · obtain ⟨a, x, p1, p2, tags, n, s, rfl, _⟩ := h
    rfl
  · obtain ⟨a, x, p1, p2, tags, n, s, rfl, ha, hx, h1, h2, ok, htl, k⟩ := h
    refine ⟨_, (pss_cons (ps_if (PW.pt (pw_or (pt_not (pt_val (pe_callB (QB.call_isiK K) (by rfl) X.n_isinstance QB.bo_isinstance (pa_cons (pv 2) (pa_cons (pe_bltn (v := .ty "tuple") (by rfl) X.n_tuple QB.bo_tuple rfl) pa_nil))))) (pw_or1 (pt_cmpR op_ne (pe_callB (QB.call_lenK K) (by rfl) X.n_len PySem.boot_len (pa_cons (pv 2) pa_nil)) pe_int (nomark _))))) (pss_one (ps_ret pe_bl)) pss_nil) (pss_cons (ps_asg (pv 2) (pg_tup (by rfl) (pgs_cons (pg_name (i := 3) nd rfl (Or.inl rfl)) (pgs_cons (pg_name (i := 4) nd rfl (Or.inl rfl)) (pgs_nil))))) (pss_cons (ps_if (PW.pt (pw_or (pt_not (pt_val (pe_call (ok_is_list X) (hr.mono (by decide)) rfl X.d_is_list.mg X.d_is_list.F.kp X.d_is_list.b .nil pass0 (pa_cons (pv 3) (pa_cons pe_int (pa_cons (pe_gc rfl X.c_LONGEST_WORD) pa_nil)))))) (pw_or1 (pt_not (pt_val (pe_call (ok_is_subject X) (hr.mono (by decide)) rfl X.d_is_subject.mg X.d_is_subject.F.kp X.d_is_subject.b .nil pass0 (pa_cons (pv 0) (pa_cons (pv 3) pa_nil)))))))) (pss_one (ps_ret pe_bl)) pss_nil) (pss_cons (ps_if (pt_not (pt_val (pe_call (ok_is_list X) (hr.mono (by decide)) rfl X.d_is_list.mg X.d_is_list.F.kp X.d_is_list.b .nil pass0 (pa_cons (pv 4) (pa_cons (pe_callB (QB.call_lenK K) (by rfl) X.n_len PySem.boot_len (pa_cons (pv 0) pa_nil)) (pa_cons (pe_callB (QB.call_lenK K) (by rfl) X.n_len PySem.boot_len (pa_cons (pv 0) pa_nil)) pa_nil)))))) (pss_one (ps_ret pe_bl)) pss_nil) (pss_one (ps_ret (pe_callB (QB.cr_allK K rfl) (by rfl) X.n_all QB.bo_all (pa_cons (pe_lc (own := [("way", 5)]) (g := gName 5) (tt := tYes) rfl nd (QB.pi_listK K (pv 4)) (blkOk_by (N := ["tags", "many", "x", "word", "ways", "way"]) (sc := defScope s_is_standing) (by decide +kernel)) (fun _ _ _ _ _ => pg_name (i := 5) nd rfl (Or.inl rfl)) (fun _ _ _ _ _ => pts_nil) (fun _ _ _ _ _ => (pe_or (pe_cmpR op_isN (pv 5) pe_non (nomark _)) (pe_one (pe_call (ok_is_number X) (hr.mono (by decide)) rfl X.d_is_number.mg X.d_is_number.F.kp X.d_is_number.b .nil pass0 (pa_cons (pv 5) (pa_cons pe_int (pa_cons (pe_op op_sub (pv 1) pe_int) pa_nil)))))))) pa_nil)))))))), ?_⟩
    try dsimp only [Cx.nox, Cx.wish, cxOf]
    have o1 := ok.len
    have o2 := ok.ways
    refine ⟨_, rfl, _, _, _, _, true, rfl, .ty "tuple", .base (.tup hx), kit_tuple_tuple, true, rfl, ?_⟩
    refine iteF ?_
    refine ⟨_, rfl, _, _, rfl, .inr (SqT.of hx), rfl, _, rfl, ?_⟩
    refine iteF ?_
    refine ⟨_, rfl, x, _, rfl, SqT.of hx, rfl, _, _, rfl, _, _, rfl, rfl, ?_⟩
    refine ⟨_, rfl, p1, _, _, _, rfl, h1, _, rfl, ?_⟩
    rw [decide_eq_true (by rw [vS_len]; omega)]
    refine iteF ?_
    refine ⟨_, rfl, _, rfl, a, p1, tags, s.1, rfl, ha, h1, by omega, fun H1 s1 => ?_⟩
    rw [show (s.1.all fun t => decide (t ∈ tags)) = true from List.all_eq_true.mpr fun t ht => decide_eq_true (ok.sub t ht)]
    refine ⟨_, rfl, ?_⟩
    refine iteF ?_
    refine ⟨_, rfl, _, rfl, _, _, rfl, .inl (SqL.of (Same.word s1 ha)), _, rfl, _, _, rfl, .inl (SqL.of (Same.word s1 ha)), p2, _, _, _, rfl, Same.ways s1 h2, _, rfl, ?_⟩
    rw [decide_eq_true (by rw [vS_len, vWs_len]; omega)]
    refine iteF ?_
    refine ⟨_, rfl, _, rfl, ⟨_, SqL.of (Same.ways s1 h2)⟩, fun D hD => ?_⟩
    refine lc_map (walk_listWs (K := K) (a := p2) (ws := s.2)) hD (by omega) (fun H2 s2 => Same.ways (s1.trans s2) h2) (fun i => .bl true) ?_ ?_
    · rintro i v H2 H3 kk hi s2 ⟨y, hy, rfl, rfl⟩ hk
      have e := hk _ (Same.refl H3)
      refine ⟨rfl, _, rfl, rfl, _, rfl, ?_⟩
      rw [vW_is]
      cases y with
      | none => exact iteT e
      | some m =>
        have hm := ok.to m (List.mem_of_getElem? hy)
        refine iteF ?_
        refine ⟨_, rfl, _, rfl, _, _, rfl, rfl, _, _, _, rfl, ?_⟩
        rw [decide_eq_true (by omega)]
        exact e
    · intro H2 s2 e
      have e2 : (List.range s.2.length).map (fun _ => V.bl true) = (List.replicate s.2.length true).map V.bl := by
        rw [List.map_replicate, List.map_const', List.length_range]
      refine ⟨_, List.replicate s.2.length true, rfl, SqL.of (by rw [← e2]; exact e), ?_⟩
      have e3 : (List.replicate s.2.length true).all id = true := by
        rw [List.all_eq_true]
        intro b hb
        rw [List.eq_of_mem_replicate hb]
        rfl
      rw [e3]
      exact k H2 (s1.trans s2)
def spCheckTags : Sp := fun vs H Q _ => ∃ (a : Addr) (tags : List Str), vs = [.ref a] ∧ WordAt H a tags ∧ TagsOk tags ∧ ∀ H', Same H H' → Q .non H'
theorem ok_check_tags (X : TX K mg) : FnOk P w K mg base CX0 3 X.d_check_tags.a X.d_check_tags.fd ["tags"] spCheckTags := by
  have nd := sc_check_tags.nd
  refine X.d_check_tags.F.ok sc_check_tags (fun vs H Q E h => ?_) (fun cdv A outer s H vs Q E hr h => ?_)
  · obtain ⟨a, tags, rfl, _⟩ := h
    rfl
  · obtain ⟨a, tags, rfl, ha, ok, k⟩ := h
    refine ⟨_, (pss_cons (ps_if (pt_not (pt_val (pe_call (ok_is_list X) (hr.mono (by decide)) rfl X.d_is_list.mg X.d_is_list.F.kp X.d_is_list.b .nil pass0 (pa_cons (pv 0) (pa_cons pe_int (pa_cons (pe_gc rfl X.c_MOST_TAGS) pa_nil)))))) (pss_one ps_never) pss_nil) (pss_one (ps_for PassesOwn.never rfl (QB.pi_enumK K (by rfl) X.n_enumerate (pa_cons (pv 0) pa_nil)) (pg_tup (by rfl) (pgs_cons (pg_name (i := 1) nd rfl (Or.inl rfl)) (pgs_cons (pg_name (i := 2) nd rfl (Or.inl rfl)) (pgs_nil)))) (pss_one (ps_if (PW.pt (pw_or (pt_not (pt_val (pe_call (ok_is_name X) (hr.mono (by decide)) rfl X.d_is_name.mg X.d_is_name.F.kp X.d_is_name.b .nil pass0 (pa_cons (pv 2) pa_nil)))) (pw_or1 (pt_cmpR (QB.op_inK K) (pv 2) (pe_slice (QB.sl_listK K) (pv 0) po_none (po_some (pv 1))) rfl)))) (pss_one ps_never) pss_nil))))), ?_⟩
    try dsimp only [Cx.nox, Cx.wish, cxOf]
    have o1 := ok.pos
    have o2 := ok.len
    refine ⟨_, rfl, a, _, _, _, rfl, ha, _, rfl, ?_⟩
    rw [decide_eq_true (by rw [vS_len]; omega)]
    refine iteF ?_
    refine ⟨_, rfl, _, _, rfl, SqL.of ha, ?_⟩
    refine for_it (walk_enumW (K := K) (a := a) (w := tags)) (fun i σ H' => ∃ v1 v2, σ = [some (.ref a), v1, v2] ∧ Same H H') ⟨none, none, rfl, Same.refl H⟩ (fun i σ H' _ ⟨_, _, _, s1⟩ => Same.word s1 ha) ?_ ?_
    · rintro i v σ H1 H2 hi ⟨v1, v2, rfl, s1⟩ ⟨tp, t, ht, ntp, rfl, rfl⟩
      have s2 := Same.new s1 (o := .tup [.int (i : Int), .str t]) ntp
      refine ⟨tp, _, rfl, SqT.of upd_same, rfl, _, _, rfl, _, _, rfl, rfl, ?_⟩
      refine ⟨_, rfl, t, rfl, ok.names t (List.mem_of_getElem? ht), fun H3 s3 => ⟨_, rfl, ?_⟩⟩
      have s4 := s2.trans s3
      refine iteF ?_
      refine ⟨_, rfl, _, rfl, _, rfl, _, rfl, a, _, rfl, SqL.of (Same.word s4 ha), fun q hq => ?_⟩
      rw [cut_take, vS_take]
      refine ⟨q, _, rfl, .inl (SqL.of upd_same), rfl, vS_flat, _, rfl, ?_⟩
      rw [if_neg Bool.false_ne_true, inV_word]
      have hnot : t ∉ tags.take i := fun hm => by
        obtain ⟨j, hj, e⟩ := List.mem_iff_getElem.mp hm
        rw [List.length_take] at hj
        rw [List.getElem_take] at e
        have e2 : tags[j]? = some t := by rw [List.getElem?_eq_getElem (by omega), e]
        have := nd_ix ok.nd e2 ht
        omega
      rw [decide_eq_false hnot]
      exact iteF ⟨_, _, rfl, Same.new s4 hq⟩
    · rintro σ H1 ⟨v1, v2, rfl, s1⟩
      exact k H1 s1
def spCheckWord : Sp := fun vs H Q _ => ∃ (a b : Addr) (tags wd : List Str) (most : Int), vs = [.ref a, .ref b, .int most] ∧ WordAt H a tags ∧ WordAt H b wd ∧ (wd.length : Int) ≤ most ∧ (∀ t ∈ wd, t ∈ tags) ∧ ∀ H', Same H H' → Q .non H'
theorem ok_check_word (X : TX K mg) : FnOk P w K mg base CX0 3 X.d_check_word.a X.d_check_word.fd ["tags", "word", "most"] spCheckWord := by
  have nd := sc_check_word.nd
  refine X.d_check_word.F.ok sc_check_word (fun vs H Q E h => ?_) (fun cdv A outer s H vs Q E hr h => ?_)
  · obtain ⟨a, b, tags, wd, most, rfl, _⟩ := h
    rfl
  · obtain ⟨a, b, tags, wd, most, rfl, ha, hb, hz, hin, k⟩ := h
    refine ⟨_, (pss_cons (ps_if (pt_not (pt_val (pe_call (ok_is_list X) (hr.mono (by decide)) rfl X.d_is_list.mg X.d_is_list.F.kp X.d_is_list.b .nil pass0 (pa_cons (pv 1) (pa_cons pe_int (pa_cons (pv 2) pa_nil)))))) (pss_one ps_never) pss_nil) (pss_one (ps_for PassesOwn.never rfl (QB.pi_enumK K (by rfl) X.n_enumerate (pa_cons (pv 1) pa_nil)) (pg_tup (by rfl) (pgs_cons (pg_name (i := 3) nd rfl (Or.inl rfl)) (pgs_cons (pg_name (i := 4) nd rfl (Or.inl rfl)) (pgs_nil)))) (pss_one (ps_if (pt_not (pt_val (pe_call (ok_is_tag X) (hr.mono (by decide)) rfl X.d_is_tag.mg X.d_is_tag.F.kp X.d_is_tag.b .nil pass0 (pa_cons (pv 0) (pa_cons (pv 4) pa_nil))))) (pss_one ps_never) pss_nil))))), ?_⟩
    try dsimp only [Cx.nox, Cx.wish, cxOf]
    refine ⟨_, rfl, _, rfl, b, _, _, _, rfl, hb, _, rfl, ?_⟩
    rw [decide_eq_true (by rw [vS_len]; omega)]
    refine iteF ?_
    refine ⟨_, rfl, _, _, rfl, SqL.of hb, ?_⟩
    refine for_it (walk_enumW (K := K) (a := b) (w := wd)) (fun i σ H' => ∃ v3 v4, σ = [some (.ref a), some (.ref b), some (.int most), v3, v4] ∧ Same H H') ⟨none, none, rfl, Same.refl H⟩ (fun i σ H' _ ⟨_, _, _, s1⟩ => Same.word s1 hb) ?_ ?_
    · rintro i v σ H1 H2 hi ⟨v1, v2, rfl, s1⟩ ⟨tp, t, ht, ntp, rfl, rfl⟩
      have s2 := Same.new s1 (o := .tup [.int (i : Int), .str t]) ntp
      refine ⟨tp, _, rfl, SqT.of upd_same, rfl, _, _, rfl, _, _, rfl, rfl, ?_⟩
      refine ⟨_, rfl, _, rfl, a, tags, t, rfl, Same.word s2 ha, _, rfl, ?_⟩
      rw [decide_eq_true (hin t (List.mem_of_getElem? ht))]
      exact iteF ⟨_, _, rfl, s2⟩
    · rintro σ H1 ⟨v1, v2, rfl, s1⟩
      exact k H1 s1
def spCheckStandings : Sp := fun vs H Q _ => ∃ (a b : Addr) (tags : List Str) (F : Form), vs = [.ref a, .ref b] ∧ WordAt H a tags ∧ FormAt H b F ∧ FormOk tags F ∧ tags.length ≤ 100 ∧ ∀ H', Same H H' → Q .non H'
theorem ok_check_standings (X : TX K mg) : FnOk P w K mg base CX0 4 X.d_check_standings.a X.d_check_standings.fd ["tags", "standings"] spCheckStandings := by
  have nd := sc_check_standings.nd
  refine X.d_check_standings.F.ok sc_check_standings (fun vs H Q E h => ?_) (fun cdv A outer s H vs Q E hr h => ?_)
  · obtain ⟨a, b, tags, F, rfl, _⟩ := h
    rfl
  · obtain ⟨a, b, tags, F, rfl, ha, hF, ok, htl, k⟩ := h
    refine ⟨_, (pss_cons (ps_if (pt_not (pt_val (pe_call (ok_is_list X) (hr.mono (by decide)) rfl X.d_is_list.mg X.d_is_list.F.kp X.d_is_list.b .nil pass0 (pa_cons (pv 1) (pa_cons pe_int (pa_cons (pe_gc rfl X.c_MOST_STANDINGS) pa_nil)))))) (pss_one ps_never) pss_nil) (pss_one (ps_for PassesOwn.never rfl (QB.pi_enumK K (by rfl) X.n_enumerate (pa_cons (pv 1) pa_nil)) (pg_tup (by rfl) (pgs_cons (pg_name (i := 2) nd rfl (Or.inl rfl)) (pgs_cons (pg_name (i := 3) nd rfl (Or.inl rfl)) (pgs_nil)))) (pss_one (ps_if (pt_not (pt_val (pe_call (ok_is_standing X) (hr.mono (by decide)) rfl X.d_is_standing.mg X.d_is_standing.F.kp X.d_is_standing.b .nil pass0 (pa_cons (pv 0) (pa_cons (pe_callB (QB.call_lenK K) (by rfl) X.n_len PySem.boot_len (pa_cons (pv 1) pa_nil)) (pa_cons (pv 3) pa_nil)))))) (pss_one ps_never) pss_nil))))), ?_⟩
    try dsimp only [Cx.nox, Cx.wish, cxOf]
    have o1 := ok.pos
    have o2 := ok.len
    obtain ⟨ts, hts, hpr⟩ := hF
    have htsl := Paired.length hpr
    refine ⟨_, rfl, b, _, _, _, rfl, hts, _, rfl, ?_⟩
    rw [decide_eq_true (by rw [List.length_map]; omega)]
    refine iteF ?_
    refine ⟨_, rfl, _, _, rfl, SqL.of hts, ?_⟩
    refine for_it (walk_enum (K := K) (a := b) (xs := ts.map V.ref)) (fun i σ H' => ∃ v3 v4, σ = [some (.ref a), some (.ref b), v3, v4] ∧ Same H H') ⟨none, none, rfl, Same.refl H⟩ (fun i σ H' _ ⟨_, _, _, s1⟩ => SqL.of (s1 _ _ hts)) ?_ ?_
    · rintro i v σ H1 H2 hi ⟨v1, v2, rfl, s1⟩ ⟨tp, x1, x2, rfl, ntp, rfl, e1, e2⟩
      cases e1
      rw [List.length_map] at hi
      have hti : ts[i]? = some ts[i] := List.getElem?_eq_getElem hi
      have e2 : (ts.map V.ref)[i]? = some x2 := e2
      rw [List.getElem?_map, hti] at e2
      cases e2
      obtain ⟨s, hs, p1, p2, f1, f2, f3⟩ := paired_get' hpr hti
      have s2 := Same.new s1 (o := .tup [.int (i : Int), .ref ts[i]]) ntp
      refine ⟨tp, _, rfl, SqT.of upd_same, rfl, _, _, rfl, _, _, rfl, rfl, ?_⟩
      refine ⟨_, rfl, _, rfl, _, _, rfl, .inl (SqL.of (s2 _ _ hts)), _, rfl, ?_⟩
      refine ⟨a, ts[i], p1, p2, tags, F.length, s, by rw [List.length_map, htsl]; rfl, Same.word s2 ha, s2 _ _ f1, Same.word s2 f2, Same.ways s2 f3, ok.all s (mem_of hs), htl, fun H3 s3 => ⟨_, rfl, ?_⟩⟩
      exact iteF ⟨_, _, rfl, s2.trans s3⟩
    · rintro σ H1 ⟨v1, v2, rfl, s1⟩
      exact k H1 s1
end
end Law
end

section
set_option Elab.async false
set_option linter.all false
set_option maxRecDepth 100000
set_option maxHeartbeats 4000000
namespace Law
open PySem PySem.Spec PyProof.Rows L2 LamX QB QM
section
variable {P : Program} {w : World} {K : PySem.W.Frag} {mg : Str → Option Value} {base : Heap}

theorem wordIns {H : Hp} {x p C dx : Addr} {fs : List (Str × V)} {o : HO} {t : Word} (h : WordAt H p t) (e : H x = some (.ins C dx fs)) : WordAt (upd H x o) p t := Eq.trans (upd_ne (ne_of h e (fun z => nomatch z))) h
theorem formIns {H : Hp} {x p C dx : Addr} {fs : List (Str × V)} {o : HO} {F : Form} (h : FormAt H p F) (e : H x = some (.ins C dx fs)) : FormAt (upd H x o) p F := by
  obtain ⟨ts, h1, h2⟩ := h
  refine ⟨ts, Eq.trans (upd_ne (ne_of h1 e (fun z => nomatch z))) h1, L2.Paired.mapP h2 fun t s q => ?_⟩
  obtain ⟨a, b, q1, q2, q3⟩ := q
  exact ⟨a, b, Eq.trans (upd_ne (ne_of q1 e (fun z => nomatch z))) q1, Eq.trans (upd_ne (ne_of q2 e (fun z => nomatch z))) q2, Eq.trans (upd_ne (ne_of q3 e (fun z => nomatch z))) q3⟩
theorem newIns {H0 H : Hp} {x p C dx : Addr} {fs : List (Str × V)} {o : HO} {L : List Tri} {F : Form} (h : NewF H0 H p L F) (e : H x = some (.ins C dx fs)) : NewF H0 (upd H x o) p L F := by
  refine ⟨Eq.trans (upd_ne (ne_of h.lst e (fun z => nomatch z))) h.lst, ⟨L2.Paired.mapP h.all.at_ fun t s q => ?_, h.all.new, h.all.nd⟩, h.new, h.out⟩
  obtain ⟨q1, q2, q3⟩ := q
  exact ⟨Eq.trans (upd_ne (ne_of q1 e (fun z => nomatch z))) q1, Eq.trans (upd_ne (ne_of q2 e (fun z => nomatch z))) q2, Eq.trans (upd_ne (ne_of q3 e (fun z => nomatch z))) q3⟩

/-- an eater's fields -/
def eatFs (a b : Addr) : List (Str × V) := [("_tags", .ref a), ("_standings", .ref b)]
/-- an eater -/
def EatAt (C : Addr) (H : Hp) (e : Addr) (tags : Word) (G : Form) : Prop := ∃ dx a b, H e = some (.ins C dx (eatFs a b)) ∧ WordAt H a tags ∧ FormAt H b G
theorem EatAt.ext {T : List (Addr × Str)} {C e : Addr} {H H' : Hp} {tags : Word} {G : Form} (h : EatAt C H e tags G) (x : QB.Ext T H H') : EatAt C H' e tags G := by
  obtain ⟨dx, a, b, h1, h2, h3⟩ := h
  exact ⟨dx, a, b, x.get h1, x.word h2, x.form h3⟩
theorem EatAt.same {C e : Addr} {H H' : Hp} {tags : Word} {G : Form} (h : EatAt C H e tags G) (x : Same H H') : EatAt C H' e tags G := h.ext (Ext.of (T := []) x)
/-- a new eater: what it stands on is new -/
structure EatN (C : Addr) (H0 H : Hp) (e dx a b : Addr) (L : List Tri) (tags : Word) (G : Form) : Prop where
  ins : H e = some (.ins C dx (eatFs a b))
  tags : WordAt H a tags
  form : NewF H0 H b L G
  fe : Fresh H0 e
  fa : Fresh H0 a
theorem EatN.at_ {C e dx a b : Addr} {H0 H : Hp} {L : List Tri} {tags : Word} {G : Form} (h : EatN C H0 H e dx a b L tags G) : EatAt C H e tags G := ⟨dx, a, b, h.ins, h.tags, h.form.form⟩
theorem EatN.ext {T : List (Addr × Str)} {C e dx a b : Addr} {H0 H H' : Hp} {L : List Tri} {tags : Word} {G : Form} (h : EatN C H0 H e dx a b L tags G) (x : QB.Ext T H H') : EatN C H0 H' e dx a b L tags G := ⟨x.get h.ins, x.word h.tags, h.form.ext x, h.fe, h.fa⟩

def spInit (T : List (Addr × Str)) (C : Addr) : Sp := fun vs H Q _ => ∃ (x dx a b : Addr) (tags : Word) (F : Form) (H0 : Hp), vs = [.ref x, .ref a, .ref b] ∧ H x = some (.ins C dx []) ∧ WordAt H a tags ∧ FormAt H b F ∧ TagsOk tags ∧ FormOk tags F ∧ Tabs T H ∧ QB.Ext T H0 H ∧ Fresh H0 x ∧
  ∀ (a' b' : Addr) (L : List Tri) (H' : Hp), QB.Ext T H0 H' → Tabs T H' → EatN C H0 H' x dx a' b' L tags (least tags F) → Q .non H'
theorem ok_Eater___init__ (X : TX K mg) (TB : LamX.TabB base mg X.lam_c X.lam_P) : FnOk P w K mg base CX0 5 X.d_Eater___init__.a X.d_Eater___init__.fd ["self", "tags", "standings"] (spInit (Tof X) X.c_Eater) := by
  have nd := sc_Eater___init__.nd
  refine X.d_Eater___init__.F.ok sc_Eater___init__ (fun vs H Q E h => ?_) (fun cdv A outer s H vs Q E hr h => ?_)
  · obtain ⟨x, dx, a, b, tags, F, H0, rfl, _⟩ := h
    rfl
  · obtain ⟨x, dx, a, b, tags, F, H0, rfl, hx, ha, hb, to, fo, tb, e0, fx, k⟩ := h
    refine ⟨_, (pss_cons (ps_expr (pe_call (ok_check_tags X) (hr.mono (by decide)) rfl X.d_check_tags.mg X.d_check_tags.F.kp X.d_check_tags.b .nil pass0 (pa_cons (pv 1) pa_nil))) (pss_cons (ps_expr (pe_call (ok_check_standings X) (hr.mono (by decide)) rfl X.d_check_standings.mg X.d_check_standings.F.kp X.d_check_standings.b .nil pass0 (pa_cons (pv 1) (pa_cons (pv 2) pa_nil)))) (pss_cons (ps_fld (pv 0) (pe_callTy (QB.call_listK K) (by rfl) X.n_list QB.bo_list (pa_cons (pv 1) pa_nil)) rfl) (pss_one (ps_fld (pv 0) (pe_call (ok_least_form X TB) (hr.mono (by decide)) rfl X.d_least_form.mg X.d_least_form.F.kp X.d_least_form.b .nil pass0 (pa_cons (pv 1) (pa_cons (pv 2) pa_nil))) rfl))))), ?_⟩
    try dsimp only [Cx.nox, Cx.wish, cxOf]
    have htl := to.len
    refine ⟨_, rfl, a, tags, rfl, ha, to, fun H1 s1 => ?_⟩
    refine ⟨_, rfl, _, rfl, a, b, tags, F, rfl, Same.word s1 ha, Same.form s1 hb, fo, by omega, fun H2 s2 => ?_⟩
    have s12 := s1.trans s2
    refine ⟨_, rfl, ?_⟩
    dsimp only [tNil]
    refine ⟨_, _, rfl, .inl (SqL.of (Same.word s12 ha)), fun l hl => ?_⟩
    have sA : Same H (upd H2 l (.lst (vS tags))) := Same.new s12 hl
    have hxA := sA _ _ hx
    refine ⟨_, rfl, x, _, _, _, rfl, hxA, X.cl_Eater, X.na_Eater__tags, by decide, ?_⟩
    have haA : WordAt (upd H2 l (.lst (vS tags))) l tags := upd_same
    generalize upd H2 l (.lst (vS tags)) = HA at sA hxA haA ⊢
    have eB := (e0.trans (.of sA)).mut (o := .ins X.c_Eater dx [("_tags", .ref l)]) fx hxA
    have tB := tabs_mut (o := .ins X.c_Eater dx [("_tags", .ref l)]) (tb.ext sA) hxA True.intro
    refine ⟨_, rfl, _, rfl, a, b, tags, F, rfl, wordIns (Same.word sA ha) hxA, formIns (Same.form sA hb) hxA, fo.good, fo.words to, by omega, tB, fun p L H3 e3 t3 n3 => ?_⟩
    have hx3 := e3.get (p := x) upd_same
    refine ⟨_, rfl, x, _, _, _, rfl, hx3, X.cl_Eater, X.na_Eater__standings, by show (1 : Nat) < 1000; omega, ?_⟩
    exact k l p L _ ((eB.trans e3).mut fx hx3) (tabs_mut t3 hx3 True.intro) ⟨upd_same, wordIns (e3.word (wordIns haA hxA)) hx3, newIns (n3.old eB) hx3, fx, e0.fresh (.of (s12.free hl))⟩

def spLenE (C : Addr) : Sp := fun vs H Q _ => ∃ (e : Addr) (tags : Word) (G : Form), vs = [.ref e] ∧ EatAt C H e tags G ∧ Q (.int (G.length : Int)) H
theorem ok_Eater___len__ (X : TX K mg) : FnOk P w K mg base CX0 1 X.d_Eater___len__.a X.d_Eater___len__.fd ["self"] (spLenE X.c_Eater) := by
  have nd := sc_Eater___len__.nd
  refine X.d_Eater___len__.F.ok sc_Eater___len__ (fun vs H Q E h => ?_) (fun cdv A outer s H vs Q E hr h => ?_)
  · obtain ⟨e, tags, G, rfl, _⟩ := h
    rfl
  · obtain ⟨e, tags, G, rfl, ⟨dx, a, b, he, ha, hb⟩, k⟩ := h
    refine ⟨_, (pss_one (ps_ret (pe_callB (QB.call_lenK K) (by rfl) X.n_len PySem.boot_len (pa_cons (QB.pe_fldK K (pv 0) rfl) pa_nil)))), ?_⟩
    try dsimp only [Cx.nox, Cx.wish, cxOf]
    obtain ⟨vs, h1, h2⟩ := FormAt.lst hb
    refine ⟨_, rfl, e, _, _, _, _, rfl, he, X.cl_Eater, X.na_Eater__standings, rfl, ?_⟩
    dsimp only [tNil]
    refine ⟨_, _, rfl, .inl (SqL.of h1), ?_⟩
    rw [h2]
    exact k
def spTagsE (C : Addr) : Sp := fun vs H Q _ => ∃ (e : Addr) (tags : Word) (G : Form), vs = [.ref e] ∧ EatAt C H e tags G ∧ ∀ p, H p = none → Q (.ref p) (upd H p (.lst (vS tags)))
theorem ok_Eater_tags (X : TX K mg) : FnOk P w K mg base CX0 1 X.d_Eater_tags.a X.d_Eater_tags.fd ["self"] (spTagsE X.c_Eater) := by
  have nd := sc_Eater_tags.nd
  refine X.d_Eater_tags.F.ok sc_Eater_tags (fun vs H Q E h => ?_) (fun cdv A outer s H vs Q E hr h => ?_)
  · obtain ⟨e, tags, G, rfl, _⟩ := h
    rfl
  · obtain ⟨e, tags, G, rfl, ⟨dx, a, b, he, ha, hb⟩, k⟩ := h
    refine ⟨_, (pss_one (ps_ret (pe_callTy (QB.call_listK K) (by rfl) X.n_list QB.bo_list (pa_cons (QB.pe_fldK K (pv 0) rfl) pa_nil)))), ?_⟩
    try dsimp only [Cx.nox, Cx.wish, cxOf]
    refine ⟨_, rfl, e, _, _, _, _, rfl, he, X.cl_Eater, X.na_Eater__tags, rfl, ?_⟩
    dsimp only [tNil]
    exact ⟨_, _, rfl, .inl (SqL.of ha), k⟩
def spStandingsE (C : Addr) : Sp := fun vs H Q _ => ∃ (e : Addr) (tags : Word) (G : Form), vs = [.ref e] ∧ EatAt C H e tags G ∧ G.length ≤ 10000 ∧ ∀ (p : Addr) (L : List Tri) (H' : Hp), Same H H' → NewF H H' p L G → Q (.ref p) H'
theorem ok_Eater_standings (X : TX K mg) : FnOk P w K mg base CX0 2 X.d_Eater_standings.a X.d_Eater_standings.fd ["self"] (spStandingsE X.c_Eater) := by
  have nd := sc_Eater_standings.nd
  refine X.d_Eater_standings.F.ok sc_Eater_standings (fun vs H Q E h => ?_) (fun cdv A outer s H vs Q E hr h => ?_)
  · obtain ⟨e, tags, G, rfl, _⟩ := h
    rfl
  · obtain ⟨e, tags, G, rfl, ⟨dx, a, b, he, ha, hb⟩, hz, k⟩ := h
    refine ⟨_, (pss_one (ps_ret (pe_call (ok_copied X) (hr.mono (by decide)) rfl X.d_copied.mg X.d_copied.F.kp X.d_copied.b .nil pass0 (pa_cons (QB.pe_fldK K (pv 0) rfl) pa_nil)))), ?_⟩
    try dsimp only [Cx.nox, Cx.wish, cxOf]
    refine ⟨_, rfl, e, _, _, _, _, rfl, he, X.cl_Eater, X.na_Eater__standings, rfl, ?_⟩
    dsimp only [tNil]
    exact ⟨b, G, rfl, hb, hz, k⟩
def spOnE (C : Addr) : Sp := fun vs H Q _ => ∃ (e c : Addr) (tags : Word) (G : Form) (wd : Word), vs = [.ref e, .ref c] ∧ EatAt C H e tags G ∧ WordAt H c wd ∧ Good tags G ∧ (∀ t ∈ wd, t ∈ tags) ∧ wd.length ≤ 200 ∧ (∀ s ∈ G, s.1.length ≤ 10000) ∧
  ∀ (p : Addr) (H' : Hp), Same H H' → H p = none → H' p = some (.lst (vS (make tags G wd))) → Q (.ref p) H'
theorem ok_Eater_on (X : TX K mg) : FnOk P w K mg base CX0 4 X.d_Eater_on.a X.d_Eater_on.fd ["self", "subject"] (spOnE X.c_Eater) := by
  have nd := sc_Eater_on.nd
  refine X.d_Eater_on.F.ok sc_Eater_on (fun vs H Q E h => ?_) (fun cdv A outer s H vs Q E hr h => ?_)
  · obtain ⟨e, c, tags, G, wd, rfl, _⟩ := h
    rfl
  · obtain ⟨e, c, tags, G, wd, rfl, ⟨dx, a, b, he, ha, hb⟩, hw, g, hin, hz, hz2, k⟩ := h
    refine ⟨_, (pss_cons (ps_expr (pe_call (ok_check_word X) (hr.mono (by decide)) rfl X.d_check_word.mg X.d_check_word.F.kp X.d_check_word.b .nil pass0 (pa_cons (QB.pe_fldK K (pv 0) rfl) (pa_cons (pv 1) (pa_cons (pe_gc rfl X.c_LONGEST_SUBJECT) pa_nil))))) (pss_one (ps_ret (pe_call (ok_made X) (hr.mono (by decide)) rfl X.d_made.mg X.d_made.F.kp X.d_made.b .nil pass0 (pa_cons (QB.pe_fldK K (pv 0) rfl) (pa_cons (QB.pe_fldK K (pv 0) rfl) (pa_cons (pv 1) pa_nil))))))), ?_⟩
    try dsimp only [Cx.nox, Cx.wish, cxOf]
    refine ⟨_, rfl, ⟨e, _, _, _, _, rfl, he, X.cl_Eater, X.na_Eater__tags, rfl, ?_⟩⟩
    refine ⟨_, rfl, ?_⟩
    refine ⟨a, c, tags, wd, 200, rfl, ha, hw, by omega, hin, fun H1 s1 => ?_⟩
    refine ⟨_, rfl, e, _, _, _, _, rfl, s1 _ _ he, X.cl_Eater, X.na_Eater__tags, rfl, ?_⟩
    refine ⟨_, rfl, e, _, _, _, _, rfl, s1 _ _ he, X.cl_Eater, X.na_Eater__standings, rfl, ?_⟩
    refine ⟨_, rfl, ?_⟩
    exact ⟨a, b, c, tags, G, wd, rfl, Same.word s1 ha, Same.form s1 hb, Same.word s1 hw, g, hin, by omega, hz2, fun p H2 s2 n2 h2 => k p H2 (s1.trans s2) (s1.free n2) h2⟩
def spEqE (K : PySem.W.Frag) (C : Addr) : Sp := fun vs H Q _ => ∃ (e : Addr) (y : V) (tags : Word) (G : Form), vs = [.ref e, y] ∧ EatAt C H e tags G ∧ OkWord tags ∧ OkForm G ∧
  ((∃ (f : Addr) (tags2 : Word) (G2 : Form), y = .ref f ∧ EatAt C H f tags2 G2 ∧ OkWord tags2 ∧ OkForm G2 ∧ Q (.bl (decide (tags = tags2) && decide (G = G2))) H) ∨
   (∃ t, TyOf K H y t ∧ PySem.W.kitOne K t (.ref C) = some false ∧ Q (.bl false) H))
theorem ok_Eater___eq__ (X : TX K mg) : FnOk P w K mg base CX0 1 X.d_Eater___eq__.a X.d_Eater___eq__.fd ["self", "other"] (spEqE K X.c_Eater) := by
  have nd := sc_Eater___eq__.nd
  refine X.d_Eater___eq__.F.ok sc_Eater___eq__ (fun vs H Q E h => ?_) (fun cdv A outer s H vs Q E hr h => ?_)
  · obtain ⟨e, y, tags, G, rfl, _⟩ := h
    rfl
  · obtain ⟨e, y, tags, G, rfl, ⟨dx, a, b, he, ha, hb⟩, ot, oG, k⟩ := h
    refine ⟨_, (pss_cons (ps_if (pt_not (pt_val (pe_callB (QB.call_isiK K) (by rfl) X.n_isinstance QB.bo_isinstance (pa_cons (pv 1) (pa_cons (pe_glob (v := .ref X.c_Eater) rfl X.m_Eater rfl) pa_nil))))) (pss_one (ps_ret pe_bl)) pss_nil) (pss_one (ps_ret (pe_and (pe_cmpR (QB.op_eqDK K hr.units) (QB.pe_fldK K (pv 0) rfl) (QB.pe_fldK K (pv 1) rfl) (nomark _)) (pe_one (pe_cmpR (QB.op_eqDK K hr.units) (QB.pe_fldK K (pv 0) rfl) (QB.pe_fldK K (pv 1) rfl) (nomark _))))))), ?_⟩
    try dsimp only [Cx.nox, Cx.wish, cxOf]
    rcases k with ⟨f, tags2, G2, rfl, ⟨dx2, a2, b2, hf, ha2, hb2⟩, ot2, oG2, q⟩ | ⟨t, ht, hk, q⟩
    · refine ⟨_, rfl, ?_⟩
      dsimp only [tNil, tCons]
      refine ⟨_, _, _, _, true, rfl, .own _, .base (X.oc_Eater.ty X.cl_Eater hf), QO.OwnC.self, true, rfl, ?_⟩
      refine iteF ?_
      refine ⟨_, rfl, e, _, _, _, _, rfl, he, X.cl_Eater, X.na_Eater__tags, rfl, ?_⟩
      refine ⟨_, rfl, f, _, _, _, _, rfl, hf, X.cl_Eater, X.na_Eater__tags, rfl, ?_⟩
      refine eq_wd ha ha2 ot ot2 ?_
      refine ⟨_, rfl, ?_⟩
      by_cases z : tags = tags2
      · rw [decide_eq_true z] at q ⊢
        refine iteT ?_
        refine ⟨_, rfl, e, _, _, _, _, rfl, he, X.cl_Eater, X.na_Eater__standings, rfl, ?_⟩
        refine ⟨_, rfl, f, _, _, _, _, rfl, hf, X.cl_Eater, X.na_Eater__standings, rfl, ?_⟩
        exact eq_form hb hb2 oG oG2 q
      · rw [decide_eq_false z] at q ⊢
        exact iteF q
    · refine ⟨_, rfl, ?_⟩
      dsimp only [tNil, tCons]
      refine ⟨_, _, _, _, false, rfl, .own _, .base ht, hk, false, rfl, ?_⟩
      exact iteT q
end
end Law
end

section
set_option Elab.async false
set_option linter.all false
set_option maxRecDepth 100000
set_option maxHeartbeats 4000000
namespace Law
open PySem PySem.Spec PyProof.Rows L2 LamX QB QM QV
section
variable {P : Program} {w : World} {K : PySem.W.Frag} {mg : Str → Option Value} {base : Heap}
theorem ok_InvalidTags___init__ (X : TX K mg) : FnOk P w K mg base CX0 1 X.d_InvalidTags___init__.a X.d_InvalidTags___init__.fd ["self", "index"] (QX.spExI K X.e_InvalidTags "index") := by
  have nd := sc_InvalidTags___init__.nd
  refine X.d_InvalidTags___init__.F.ok sc_InvalidTags___init__ (fun vs H Q E h => ?_) (fun cdv A outer s H vs Q E hr h => ?_)
  · obtain ⟨a, y, rfl, _⟩ := h
    rfl
  · obtain ⟨a, y, rfl, ha, k⟩ := h
    refine ⟨_, (pss_one (ps_ost (pv 0) (pv 1))), ?_⟩
    try dsimp only [Cx.nox, Cx.wish, cxOf]
    exact ⟨_, rfl, _, rfl, a, X.e_InvalidTags, rfl, X.xt_InvalidTags.oex, X.xt_InvalidTags.noF, .inl ⟨ha, fun dx h1 h2 => k dx h1 h2⟩⟩
theorem ok_InvalidSubject___init__ (X : TX K mg) : FnOk P w K mg base CX0 1 X.d_InvalidSubject___init__.a X.d_InvalidSubject___init__.fd ["self", "index"] (QX.spExI K X.e_InvalidSubject "index") := by
  have nd := sc_InvalidSubject___init__.nd
  refine X.d_InvalidSubject___init__.F.ok sc_InvalidSubject___init__ (fun vs H Q E h => ?_) (fun cdv A outer s H vs Q E hr h => ?_)
  · obtain ⟨a, y, rfl, _⟩ := h
    rfl
  · obtain ⟨a, y, rfl, ha, k⟩ := h
    refine ⟨_, (pss_one (ps_ost (pv 0) (pv 1))), ?_⟩
    try dsimp only [Cx.nox, Cx.wish, cxOf]
    exact ⟨_, rfl, _, rfl, a, X.e_InvalidSubject, rfl, X.xt_InvalidSubject.oex, X.xt_InvalidSubject.noF, .inl ⟨ha, fun dx h1 h2 => k dx h1 h2⟩⟩
theorem ok_InvalidEater___init__ (X : TX K mg) : FnOk P w K mg base CX0 1 X.d_InvalidEater___init__.a X.d_InvalidEater___init__.fd ["self", "index"] (QX.spExI K X.e_InvalidEater "index") := by
  have nd := sc_InvalidEater___init__.nd
  refine X.d_InvalidEater___init__.F.ok sc_InvalidEater___init__ (fun vs H Q E h => ?_) (fun cdv A outer s H vs Q E hr h => ?_)
  · obtain ⟨a, y, rfl, _⟩ := h
    rfl
  · obtain ⟨a, y, rfl, ha, k⟩ := h
    refine ⟨_, (pss_one (ps_ost (pv 0) (pv 1))), ?_⟩
    try dsimp only [Cx.nox, Cx.wish, cxOf]
    exact ⟨_, rfl, _, rfl, a, X.e_InvalidEater, rfl, X.xt_InvalidEater.oex, X.xt_InvalidEater.noF, .inl ⟨ha, fun dx h1 h2 => k dx h1 h2⟩⟩
theorem ok_InvalidText___init__ (X : TX K mg) : FnOk P w K mg base CX0 1 X.d_InvalidText___init__.a X.d_InvalidText___init__.fd ["self", "line"] (QX.spExI K X.e_InvalidText "line") := by
  have nd := sc_InvalidText___init__.nd
  refine X.d_InvalidText___init__.F.ok sc_InvalidText___init__ (fun vs H Q E h => ?_) (fun cdv A outer s H vs Q E hr h => ?_)
  · obtain ⟨a, y, rfl, _⟩ := h
    rfl
  · obtain ⟨a, y, rfl, ha, k⟩ := h
    refine ⟨_, (pss_one (ps_ost (pv 0) (pv 1))), ?_⟩
    try dsimp only [Cx.nox, Cx.wish, cxOf]
    exact ⟨_, rfl, _, rfl, a, X.e_InvalidText, rfl, X.xt_InvalidText.oex, X.xt_InvalidText.noF, .inl ⟨ha, fun dx h1 h2 => k dx h1 h2⟩⟩
end
/-! how heavy a list is -/
theorem all_len : ∀ ds : List PyData, ds.length ≤ PyData.weightAll ds
  | [] => Nat.zero_le _
  | d :: ds => by
    rw [List.length_cons, PyData.weightAll]
    have := all_len ds
    omega
theorem all_mem : ∀ {ds : List PyData} {d : PyData}, d ∈ ds → d.weight + 1 ≤ PyData.weightAll ds
  | e :: ds, d, h => by
    rw [PyData.weightAll]
    rcases List.mem_cons.mp h with rfl | h
    · omega
    · have := all_mem h
      omega
theorem w_list (ds : List PyData) : (PyData.list ds).weight = PyData.weightAll ds := by rw [PyData.weight]
theorem w_tuple (ds : List PyData) : (PyData.tuple ds).weight = PyData.weightAll ds := by rw [PyData.weight]
theorem w_str (t : Str) : (PyData.str t).weight = t.length := by
  rw [PyData.weight]
  rfl
/-! what the checks tell of data -/
def nameB (t : Str) : Bool := decide (1 ≤ t.length) && (decide (t.length ≤ 8) && t.cps.toList.all fun c => decide (c ∈ letters.cps.toList))
def nameD : PyData → Bool
  | .str t => nameB t
  | _ => false
def tagD (tags : List Str) : PyData → Bool
  | .str t => decide (t ∈ tags)
  | _ => false
def numD (lo hi : Int) : PyData → Bool
  | .int i => decide (lo ≤ i ∧ i ≤ hi)
  | _ => false
def listD (lo hi : Int) : PyData → Bool
  | .list ds => decide (lo ≤ (ds.length : Int) ∧ (ds.length : Int) ≤ hi)
  | _ => false
def subjD (tags : List Str) : PyData → Bool
  | .list ds => ds.all (tagD tags)
  | _ => false
def noneD : PyData → Bool
  | .none => true
  | _ => false
def wayD (many : Int) (d : PyData) : Bool := noneD d || numD 0 (many - 1) d
def waysD (many : Int) : PyData → Bool
  | .list ds => ds.all (wayD many)
  | _ => false
def stdD (tags : List Str) (many : Int) : PyData → Bool
  | .tuple [a, b] => listD 0 8 a && (subjD tags a && (listD (tags.length : Int) (tags.length : Int) b && waysD many b))
  | _ => false
theorem nameB_ok {t : Str} (h : NameOk t) : nameB t = true := by
  unfold nameB
  rw [decide_eq_true h.pos, decide_eq_true h.len, List.all_eq_true.mpr fun c hc => decide_eq_true (h.all c hc)]
  rfl
theorem nameB_to {t : Str} (h : nameB t = true) : NameOk t := by
  unfold nameB at h
  rw [Bool.and_eq_true, Bool.and_eq_true, List.all_eq_true] at h
  obtain ⟨h1, h2, h3⟩ := h
  exact ⟨of_decide_eq_true h1, of_decide_eq_true h2, fun c hc => of_decide_eq_true (h3 c hc)⟩
/-- the first of n places that is so -/
def firstBad (p : Nat → Bool) (n : Nat) : Option Nat := (List.range n).find? p
theorem first_at {p : Nat → Bool} {n i : Nat} (hi : i < n) (hp : p i = true) (hno : ∀ j < i, p j = false) : firstBad p n = some i := by
  unfold firstBad
  rw [List.find?_range_eq_some]
  exact ⟨hp, List.mem_range.mpr hi, fun j hj => by rw [hno j hj]; rfl⟩
theorem first_none {p : Nat → Bool} {n : Nat} (h : ∀ i < n, p i = false) : firstBad p n = none := by
  unfold firstBad
  rw [List.find?_eq_none]
  intro i hi
  rw [h i (List.mem_range.mp hi)]
  exact Bool.false_ne_true
theorem none_first {p : Nat → Bool} {n : Nat} (h : firstBad p n = none) : ∀ i < n, p i = false := by
  unfold firstBad at h
  rw [List.find?_eq_none] at h
  intro i hi
  have := h i (List.mem_range.mpr hi)
  cases q : p i with
  | false => rfl
  | true => exact absurd q this
def sameS : PyData → PyData → Bool
  | .str a, .str b => a == b
  | _, _ => false
def badTag (ds : List PyData) (i : Nat) : Bool := match ds[i]? with
  | some d => !nameD d || (ds.take i).any fun e => sameS e d
  | none => false
def idx (o : Option Nat) : Option V := o.map fun i => .int (i : Int)
def tagsDue : PyData → Option V
  | .list ds => if 1 ≤ ds.length ∧ ds.length ≤ 6 then idx (firstBad (badTag ds) ds.length) else some .non
  | _ => some .non
def badStd (tags : List Str) (ds : List PyData) (i : Nat) : Bool := match ds[i]? with
  | some d => !stdD tags (ds.length : Int) d
  | none => false
def stdsDue (tags : List Str) : PyData → Option V
  | .list ds => if 1 ≤ ds.length ∧ ds.length ≤ 30 then idx (firstBad (badStd tags ds) ds.length) else some .non
  | _ => some .non
/-- an error of the class at C with one field -/
def Bad (C : Addr) (f : Str) (iv : V) (H : Hp) (E : XK) : Prop := ∀ dd H', Same H H' → H' dd = some (.xd [(f, iv)]) → H dd = none → E (.ref C) (some dd) H'
theorem Bad.same {C : Addr} {f : Str} {iv : V} {H H' : Hp} {E : XK} (h : Bad C f iv H E) (s : Same H H') : Bad C f iv H' E := fun dd H2 s2 e n => h dd H2 (s.trans s2) e (s.free n)
theorem Bad.mk {K : PySem.W.Frag} {C : Addr} {f : Str} {iv : V} {H : Hp} {E : XK} (h : Bad C f iv H E) : ([iv] : List V).length ≤ 1000 ∧ ∀ a, H a = none → QX.spExI K C f (.ref a :: ([iv] ++ [])) (upd H a (exo a C none))
      (fun v H2 => v = .non ∧ ∃ (d : Addr) (fs : List (Str × V)), H2 a = some (exo a C (some d)) ∧ H2 d = some (exd d fs) ∧ H d = none ∧ E (.ref C) (some d) (upd (del H2 a) d (.xd fs))) (fun _ _ _ => False) :=
  QX.mkO_of fun d hd => h d _ (same_new hd) upd_same hd
theorem names_flat : ∀ {ds : List PyData} {xs : List V} {H : Hp}, DvAll H xs ds → (∀ d ∈ ds, nameD d = true) → xs.all flatV = true
  | _, _, _, .nil, _ => rfl
  | _, _, _, .cons (d := d) h1 h2, h => by
    rw [List.all_cons, names_flat h2 fun e he => h e (List.mem_cons_of_mem _ he)]
    have := h d List.mem_cons_self
    cases h1 with
    | str t => rfl
    | _ => cases this
theorem names_in : ∀ {ds : List PyData} {xs : List V} {H : Hp} (t : Str), DvAll H xs ds → (∀ d ∈ ds, nameD d = true) → inV (.str t) xs = ds.any fun e => sameS e (.str t)
  | _, _, _, _, .nil, _ => rfl
  | _, _, _, t, .cons (d := d) h1 h2, h => by
    have ih := names_in t h2 fun e he => h e (List.mem_cons_of_mem _ he)
    unfold inV at ih ⊢
    rw [List.any_cons, List.any_cons, ih]
    have := h d List.mem_cons_self
    cases h1 with
    | str u => rfl
    | _ => cases this
theorem names_before {ds : List PyData} {i : Nat} (hi : i ≤ ds.length) (h : ∀ j < i, badTag ds j = false) : ∀ d ∈ ds.take i, nameD d = true := fun d hd => by
  obtain ⟨j, hj, e⟩ := List.mem_iff_getElem.mp hd
  rw [List.length_take] at hj
  have hb := h j (by omega)
  unfold badTag at hb
  rw [List.getElem_take] at e
  rw [List.getElem?_eq_getElem (by omega), e] at hb
  dsimp only at hb
  rw [Bool.or_eq_false_iff] at hb
  simpa using hb.1
section
variable {P : Program} {w : World} {K : PySem.W.Frag} {mg : Str → Option Value} {base : Heap}
def spIsNumberD : Sp := fun vs H Q _ => ∃ (v : V) (d : PyData) (lo hi : Int), vs = [v, .int lo, .int hi] ∧ Dv H v d ∧ Q (.bl (numD lo hi d)) H
theorem oka_is_number (X : TX K mg) : FnOk P w K mg base CX0 1 X.d_is_number.a X.d_is_number.fd ["x", "least", "most"] spIsNumberD := by
  have nd := sc_is_number.nd
  refine X.d_is_number.F.ok sc_is_number (fun vs H Q E h => ?_) (fun cdv A outer s H vs Q E hr h => ?_)
  · obtain ⟨n, d, lo, hi, rfl, _⟩ := h
    rfl
  · obtain ⟨v, d, lo, hi, rfl, hd, k⟩ := h
    refine ⟨_, (pss_one (ps_ret (pe_and (pe_callB (QB.call_isiK K) (by rfl) X.n_isinstance QB.bo_isinstance (pa_cons (pv 0) (pa_cons (pe_bltn (v := .ty "int") (by rfl) X.n_int QB.bo_int rfl) pa_nil))) (pe_and (pe_not (pe_callB (QB.call_isiK K) (by rfl) X.n_isinstance QB.bo_isinstance (pa_cons (pv 0) (pa_cons (pe_bltn (v := .ty "bool") (by rfl) X.n_bool QB.bo_bool rfl) pa_nil)))) (pe_one (pe_chain op_le op_le (pv 1) (pv 0) (pv 2))))))), ?_⟩
    try dsimp only [Cx.nox, Cx.wish, cxOf]
    refine ⟨_, rfl, _, _, _, _, isID d, rfl, .ty "int", hd.ty K, kit_i d, isID d, rfl, ?_⟩
    cases hd with
    | bl b =>
      refine iteT ?_
      refine ⟨_, rfl, _, _, _, _, true, rfl, .ty "bool", (Dv.bl b).ty K, kit_b (.bool b), true, rfl, false, rfl, ?_⟩
      exact iteF k
    | int n =>
      refine iteT ?_
      refine ⟨_, rfl, _, _, _, _, false, rfl, .ty "bool", (Dv.int (H := H) n).ty K, kit_b (.int n), false, rfl, true, rfl, ?_⟩
      refine iteT ?_
      refine ⟨_, rfl, _, rfl, _, _, rfl, rfl, _, rfl, ?_⟩
      have k : Q (.bl (decide (lo ≤ n ∧ n ≤ hi))) H := k
      by_cases h1 : lo ≤ n
      · rw [if_pos (decide_eq_true h1)]
        refine ⟨_, rfl, _, _, rfl, rfl, ?_⟩
        have e : decide (lo ≤ n ∧ n ≤ hi) = decide (n ≤ hi) := by simp [h1]
        rw [e] at k
        exact k
      · rw [if_neg (by simpa using h1)]
        have e : decide (lo ≤ n ∧ n ≤ hi) = false := by simp [h1]
        rw [e] at k
        exact k
    | _ => exact iteF k
def spIsListD : Sp := fun vs H Q _ => ∃ (v : V) (d : PyData) (lo hi : Int), vs = [v, .int lo, .int hi] ∧ Dv H v d ∧ Q (.bl (listD lo hi d)) H
theorem oka_is_list (X : TX K mg) : FnOk P w K mg base CX0 1 X.d_is_list.a X.d_is_list.fd ["x", "least", "most"] spIsListD := by
  have nd := sc_is_list.nd
  refine X.d_is_list.F.ok sc_is_list (fun vs H Q E h => ?_) (fun cdv A outer s H vs Q E hr h => ?_)
  · obtain ⟨v, d, lo, hi, rfl, _⟩ := h
    rfl
  · obtain ⟨v, d, lo, hi, rfl, hd, k⟩ := h
    refine ⟨_, (pss_one (ps_ret (pe_and (pe_callB (QB.call_isiK K) (by rfl) X.n_isinstance QB.bo_isinstance (pa_cons (pv 0) (pa_cons (pe_bltn (v := .ty "list") (by rfl) X.n_list QB.bo_list rfl) pa_nil))) (pe_one (pe_chain op_le op_le (pv 1) (pe_callB (QB.call_lenK K) (by rfl) X.n_len PySem.boot_len (pa_cons (pv 0) pa_nil)) (pv 2)))))), ?_⟩
    try dsimp only [Cx.nox, Cx.wish, cxOf]
    refine ⟨_, rfl, _, _, _, _, isLD d, rfl, .ty "list", hd.ty K, kit_l d, isLD d, rfl, ?_⟩
    cases hd with
    | @lst a xs ds ha hall =>
      refine iteT ?_
      refine ⟨_, rfl, _, rfl, _, _, rfl, .inl (SqL.of ha), _, _, rfl, rfl, _, rfl, ?_⟩
      rw [← hall.len]
      have k : Q (.bl (decide (lo ≤ (ds.length : Int) ∧ (ds.length : Int) ≤ hi))) H := k
      by_cases h1 : lo ≤ (ds.length : Int)
      · rw [if_pos (decide_eq_true h1)]
        refine ⟨_, rfl, _, _, rfl, rfl, ?_⟩
        have e : decide (lo ≤ (ds.length : Int) ∧ (ds.length : Int) ≤ hi) = decide ((ds.length : Int) ≤ hi) := by simp [h1]
        rw [e] at k
        exact k
      · rw [if_neg (by simpa using h1)]
        have e : decide (lo ≤ (ds.length : Int) ∧ (ds.length : Int) ≤ hi) = false := by simp [h1]
        rw [e] at k
        exact k
    | _ => exact iteF k
def spIsNameD : Sp := fun vs H Q _ => ∃ (v : V) (d : PyData), vs = [v] ∧ Dv H v d ∧ d.weight ≤ 10000 ∧ ∀ H', Same H H' → Q (.bl (nameD d)) H'
theorem oka_is_name (X : TX K mg) : FnOk P w K mg base CX0 1 X.d_is_name.a X.d_is_name.fd ["x"] spIsNameD := by
  have nd := sc_is_name.nd
  refine X.d_is_name.F.ok sc_is_name (fun vs H Q E h => ?_) (fun cdv A outer s H vs Q E hr h => ?_)
  · obtain ⟨v, d, rfl, _⟩ := h
    rfl
  · obtain ⟨v, d, rfl, hd, hz, k⟩ := h
    refine ⟨_, (pss_cons (ps_if (PW.pt (pw_or (pt_not (pt_val (pe_callB (QB.call_isiK K) (by rfl) X.n_isinstance QB.bo_isinstance (pa_cons (pv 0) (pa_cons (pe_bltn (v := .ty "str") (by rfl) X.n_str QB.bo_str rfl) pa_nil))))) (pw_or1 (pt_not (pt_chain op_le op_le pe_int (pe_callB call_len_str (by rfl) X.n_len PySem.boot_len (pa_cons (pv 0) pa_nil)) (pe_gc rfl X.c_MOST_LETTERS)))))) (pss_one (ps_ret pe_bl)) pss_nil) (pss_one (ps_ret (pe_callB (QB.cr_allK K rfl) (by rfl) X.n_all QB.bo_all (pa_cons (pe_lc (own := [("letter", 1)]) (g := gName 1) (tt := tYes) rfl nd (pi_str (pv 0)) (blkOk_by (N := ["x", "letter"]) (sc := defScope s_is_name) (by decide +kernel)) (fun _ _ _ _ _ => pg_name (i := 1) nd rfl (Or.inl rfl)) (fun _ _ _ _ _ => pts_nil) (fun _ _ _ _ _ => (pe_cmpR op_in_sign (pv 1) (pe_gc rfl X.c_LETTERS) rfl))) pa_nil))))), ?_⟩
    try dsimp only [Cx.nox, Cx.wish, cxOf]
    refine ⟨_, rfl, _, _, _, _, isSD d, rfl, .ty "str", hd.ty K, kit_s d, isSD d, rfl, ?_⟩
    cases hd with
    | str t =>
      refine iteF ?_
      rw [w_str] at hz
      have k : ∀ H', Same H H' → Q (.bl (nameB t)) H' := k
      unfold nameB at k
      refine ⟨_, rfl, t, rfl, sz_le (by omega), _, _, rfl, rfl, _, rfl, ?_⟩
      by_cases h1 : 1 ≤ t.length
      case neg =>
        rw [if_neg (by rw [decide_eq_true_eq]; omega)]
        refine ⟨_, rfl, iteT ?_⟩
        have e := k H (Same.refl H)
        rw [decide_eq_false h1] at e
        exact e
      rw [if_pos (decide_eq_true (by omega))]
      rw [decide_eq_true h1] at k
      refine ⟨_, _, rfl, rfl, _, rfl, ?_⟩
      by_cases h8 : t.length ≤ 8
      case neg =>
        rw [decide_eq_false (by omega)]
        refine iteT ?_
        have e := k H (Same.refl H)
        rw [decide_eq_false h8] at e
        exact e
      rw [decide_eq_true (by omega : (t.length : Int) ≤ 8)]
      refine iteF ?_
      rw [decide_eq_true h8] at k
      refine ⟨_, rfl, t, rfl, fun D hD => ?_⟩
      refine lc_map walk_str hD (by have e : t.cps.size = t.length := rfl; omega) (fun _ _ => True.intro) (fun i => .bl (((t.cps.toList[i]?).map fun c => decide (c ∈ letters.cps.toList)).getD false)) ?_ ?_
      · rintro i x H1 H2 kk hi s1 ⟨rfl, c, hc, rfl⟩ hk
        refine ⟨rfl, _, rfl, c, letters, rfl, rfl, ?_⟩
        have hc2 : t.cps.toList[i]? = some c := by simpa using hc
        have e := hk _ (Same.refl H2)
        rw [hc2] at e
        exact e
      · intro H1 s1 e
        have e0 : t.cps.size = t.cps.toList.length := rfl
        rw [e0, range_map_get _ t.cps.toList (fun c => .bl (decide (c ∈ letters.cps.toList))) (fun i x hx => by rw [hx]; rfl)] at e
        refine ⟨_, t.cps.toList.map fun c => decide (c ∈ letters.cps.toList), rfl, SqL.of (by rw [e, List.map_map]; rfl), ?_⟩
        have e2 := k H1 s1
        rw [List.all_map]
        exact e2
    | _ => exact iteT (k H (Same.refl H))
def spIsTagD : Sp := fun vs H Q _ => ∃ (a : Addr) (tags : List Str) (v : V) (d : PyData), vs = [.ref a, v] ∧ WordAt H a tags ∧ Dv H v d ∧ Q (.bl (tagD tags d)) H
theorem oka_is_tag (X : TX K mg) : FnOk P w K mg base CX0 1 X.d_is_tag.a X.d_is_tag.fd ["tags", "x"] spIsTagD := by
  have nd := sc_is_tag.nd
  refine X.d_is_tag.F.ok sc_is_tag (fun vs H Q E h => ?_) (fun cdv A outer s H vs Q E hr h => ?_)
  · obtain ⟨a, tags, v, d, rfl, _⟩ := h
    rfl
  · obtain ⟨a, tags, v, d, rfl, ha, hd, k⟩ := h
    refine ⟨_, (pss_one (ps_ret (pe_and (pe_callB (QB.call_isiK K) (by rfl) X.n_isinstance QB.bo_isinstance (pa_cons (pv 1) (pa_cons (pe_bltn (v := .ty "str") (by rfl) X.n_str QB.bo_str rfl) pa_nil))) (pe_one (pe_cmpR (QB.op_inK K) (pv 1) (pv 0) rfl))))), ?_⟩
    try dsimp only [Cx.nox, Cx.wish, cxOf]
    refine ⟨_, rfl, _, _, _, _, isSD d, rfl, .ty "str", hd.ty K, kit_s d, isSD d, rfl, ?_⟩
    cases hd with
    | str t =>
      refine iteT ?_
      refine ⟨_, rfl, _, rfl, a, vS tags, rfl, .inl (SqL.of ha), rfl, vS_flat, ?_⟩
      show Q (.bl (if false = true then !inV (.str t) (vS tags) else inV (.str t) (vS tags))) H
      rw [if_neg Bool.false_ne_true, inV_word]
      exact k
    | _ => exact iteF k
def spIsSubjectD : Sp := fun vs H Q _ => ∃ (a : Addr) (tags : List Str) (v : V) (d : PyData), vs = [.ref a, v] ∧ WordAt H a tags ∧ Dv H v d ∧ d.weight ≤ 10000 ∧ ∀ H', Same H H' → Q (.bl (subjD tags d)) H'
theorem oka_is_subject (X : TX K mg) : FnOk P w K mg base CX0 2 X.d_is_subject.a X.d_is_subject.fd ["tags", "x"] spIsSubjectD := by
  have nd := sc_is_subject.nd
  refine X.d_is_subject.F.ok sc_is_subject (fun vs H Q E h => ?_) (fun cdv A outer s H vs Q E hr h => ?_)
  · obtain ⟨a, tags, v, d, rfl, _⟩ := h
    rfl
  · obtain ⟨a, tags, v, d, rfl, ha, hd, hz, k⟩ := h
    refine ⟨_, ((pss_one (ps_ret (pe_and (pe_callB (QB.call_isiK K) (by rfl) X.n_isinstance QB.bo_isinstance (pa_cons (pv 1) (pa_cons (pe_bltn (v := .ty "list") (by rfl) X.n_list QB.bo_list rfl) pa_nil))) (pe_one (pe_callB (QB.cr_allK K rfl) (by rfl) X.n_all QB.bo_all (pa_cons (pe_lc (own := [("tag", 2)]) (g := gName 2) (tt := tYes) rfl nd (QB.pi_listK K (pv 1)) (blkOk_by (N := ["tags", "x", "tag"]) (sc := defScope s_is_subject) (by decide +kernel)) (fun _ _ _ _ _ => pg_name (i := 2) nd rfl (Or.inl rfl)) (fun _ _ _ _ _ => pts_nil) (fun _ _ _ _ _ => (pe_call (oka_is_tag X) (hr.mono (by decide)) rfl X.d_is_tag.mg X.d_is_tag.F.kp X.d_is_tag.b .nil pass0 (pa_cons (pv 0) (pa_cons (pv 2) pa_nil))))) pa_nil))))))), ?_⟩
    try dsimp only [Cx.nox, Cx.wish, cxOf]
    refine ⟨_, rfl, _, _, _, _, isLD d, rfl, .ty "list", hd.ty K, kit_l d, isLD d, rfl, ?_⟩
    cases hd with
    | @lst b xs ds hb hall =>
      refine iteT ?_
      rw [w_list] at hz
      have hzl := all_len ds
      have hln := hall.len
      have k : ∀ H', Same H H' → Q (.bl (ds.all (tagD tags))) H' := k
      refine ⟨_, rfl, _, rfl, ⟨_, SqL.of hb⟩, fun D hD => ?_⟩
      refine lc_map (walk_list (K := K) (a := b) (xs := xs)) hD (by omega) (fun H1 s1 => SqL.of (s1 _ _ hb)) (fun i => .bl (((ds[i]?).map (tagD tags)).getD false)) ?_ ?_
      · rintro i x H1 H2 kk hi s1 ⟨rfl, hy⟩ hk
        obtain ⟨d, hd, hv⟩ := hall.get hy
        refine ⟨rfl, _, rfl, _, rfl, a, tags, x, d, rfl, Same.word s1 ha, hv.same s1, ?_⟩
        have e := hk _ (Same.refl H2)
        rw [hd] at e
        exact e
      · intro H1 s1 e
        rw [← hln, range_map_get _ ds (fun t => .bl (tagD tags t)) (fun i x hx => by rw [hx]; rfl)] at e
        refine ⟨_, ds.map (tagD tags), rfl, SqL.of (by rw [e, List.map_map]; rfl), ?_⟩
        have e2 := k H1 s1
        rw [List.all_map]
        exact e2
    | _ => exact iteF (k H (Same.refl H))
end
end Law
end

section
set_option Elab.async false
set_option linter.all false
set_option maxRecDepth 100000
set_option maxHeartbeats 4000000
namespace Law
open PySem PySem.Spec PyProof.Rows L2 LamX QB QM QV
theorem dv_none {H : Hp} {v : V} {d : PyData} (h : Dv H v d) : decide (v = .non) = noneD d := by
  cases h <;> rfl
section
variable {P : Program} {w : World} {K : PySem.W.Frag} {mg : Str → Option Value} {base : Heap}
def spIsStandingD : Sp := fun vs H Q _ => ∃ (a : Addr) (tags : List Str) (many : Nat) (v : V) (d : PyData), vs = [.ref a, .int (many : Int), v] ∧ WordAt H a tags ∧ Dv H v d ∧ d.weight ≤ 10000 ∧ ∀ H', Same H H' → Q (.bl (stdD tags (many : Int) d)) H'
theorem oka_is_standing (X : TX K mg) : FnOk P w K mg base CX0 3 X.d_is_standing.a X.d_is_standing.fd ["tags", "many", "x"] spIsStandingD := by
  have nd := sc_is_standing.nd
  refine X.d_is_standing.F.ok sc_is_standing (fun vs H Q E h => ?_) (fun cdv A outer s H vs Q E hr h => ?_)
  · obtain ⟨a, tags, many, v, d, rfl, _⟩ := h
    rfl
  · obtain ⟨a, tags, many, v, d, rfl, ha, hd, hz, k⟩ := h
    refine ⟨_, (pss_cons (ps_if (PW.pt (pw_or (pt_not (pt_val (pe_callB (QB.call_isiK K) (by rfl) X.n_isinstance QB.bo_isinstance (pa_cons (pv 2) (pa_cons (pe_bltn (v := .ty "tuple") (by rfl) X.n_tuple QB.bo_tuple rfl) pa_nil))))) (pw_or1 (pt_cmpR op_ne (pe_callB (QB.call_lenK K) (by rfl) X.n_len PySem.boot_len (pa_cons (pv 2) pa_nil)) pe_int (nomark _))))) (pss_one (ps_ret pe_bl)) pss_nil) (pss_cons (ps_asg (pv 2) (pg_tup (by rfl) (pgs_cons (pg_name (i := 3) nd rfl (Or.inl rfl)) (pgs_cons (pg_name (i := 4) nd rfl (Or.inl rfl)) (pgs_nil))))) (pss_cons (ps_if (PW.pt (pw_or (pt_not (pt_val (pe_call (oka_is_list X) (hr.mono (by decide)) rfl X.d_is_list.mg X.d_is_list.F.kp X.d_is_list.b .nil pass0 (pa_cons (pv 3) (pa_cons pe_int (pa_cons (pe_gc rfl X.c_LONGEST_WORD) pa_nil)))))) (pw_or1 (pt_not (pt_val (pe_call (oka_is_subject X) (hr.mono (by decide)) rfl X.d_is_subject.mg X.d_is_subject.F.kp X.d_is_subject.b .nil pass0 (pa_cons (pv 0) (pa_cons (pv 3) pa_nil)))))))) (pss_one (ps_ret pe_bl)) pss_nil) (pss_cons (ps_if (pt_not (pt_val (pe_call (oka_is_list X) (hr.mono (by decide)) rfl X.d_is_list.mg X.d_is_list.F.kp X.d_is_list.b .nil pass0 (pa_cons (pv 4) (pa_cons (pe_callB (QB.call_lenK K) (by rfl) X.n_len PySem.boot_len (pa_cons (pv 0) pa_nil)) (pa_cons (pe_callB (QB.call_lenK K) (by rfl) X.n_len PySem.boot_len (pa_cons (pv 0) pa_nil)) pa_nil)))))) (pss_one (ps_ret pe_bl)) pss_nil) (pss_one (ps_ret (pe_callB (QB.cr_allK K rfl) (by rfl) X.n_all QB.bo_all (pa_cons (pe_lc (own := [("way", 5)]) (g := gName 5) (tt := tYes) rfl nd (QB.pi_listK K (pv 4)) (blkOk_by (N := ["tags", "many", "x", "word", "ways", "way"]) (sc := defScope s_is_standing) (by decide +kernel)) (fun _ _ _ _ _ => pg_name (i := 5) nd rfl (Or.inl rfl)) (fun _ _ _ _ _ => pts_nil) (fun _ _ _ _ _ => (pe_or (pe_cmpR op_isN (pv 5) pe_non (nomark _)) (pe_one (pe_call (oka_is_number X) (hr.mono (by decide)) rfl X.d_is_number.mg X.d_is_number.F.kp X.d_is_number.b .nil pass0 (pa_cons (pv 5) (pa_cons pe_int (pa_cons (pe_op op_sub (pv 1) pe_int) pa_nil)))))))) pa_nil)))))))), ?_⟩
    try dsimp only [Cx.nox, Cx.wish, cxOf]
    refine ⟨_, rfl, _, _, _, _, isTD d, rfl, .ty "tuple", hd.ty K, kit_t d, isTD d, rfl, ?_⟩
    cases hd with
    | @tup x xs ds hx hall =>
      refine iteF ?_
      refine ⟨_, rfl, _, _, rfl, .inr (SqT.of hx), rfl, _, rfl, ?_⟩
      have hln := hall.len
      by_cases h2 : xs.length = 2
      case neg =>
        rw [decide_eq_false (fun e => h2 (by injection e with e; omega))]
        refine iteT ?_
        have e : stdD tags (many : Int) (.tuple ds) = false := by
          match ds, hln with
          | [], _ => rfl
          | [_], _ => rfl
          | [_, _], h => exact absurd h.symm h2
          | _ :: _ :: _ :: _, _ => rfl
        rw [e] at k
        exact k H (Same.refl H)
      rw [decide_eq_true (show V.int (xs.length : Int) = V.int 2 by rw [h2]; rfl)]
      refine iteF ?_
      match xs, ds, h2, hall with
      | [v1, v2], _, _, .cons (d := d1) hd1 (.cons (d := d2) hd2 .nil) =>
      refine ⟨_, rfl, x, _, rfl, SqT.of hx, rfl, _, _, rfl, _, _, rfl, rfl, ?_⟩
      rw [w_tuple, PyData.weightAll, PyData.weightAll, PyData.weightAll] at hz
      have k : ∀ H', Same H H' → Q (.bl (listD 0 8 d1 && (subjD tags d1 && (listD (tags.length : Int) (tags.length : Int) d2 && waysD (many : Int) d2)))) H' := k
      refine ⟨_, rfl, v1, d1, _, _, rfl, hd1, _, rfl, ?_⟩
      cases q1 : listD 0 8 d1 with
      | false =>
        rw [q1] at k
        exact iteT (k H (Same.refl H))
      | true =>
      rw [q1] at k
      refine iteF ?_
      refine ⟨_, rfl, _, rfl, a, tags, v1, d1, rfl, ha, hd1, by omega, fun H1 s1 => ?_⟩
      refine ⟨_, rfl, ?_⟩
      cases q2 : subjD tags d1 with
      | false =>
        rw [q2] at k
        exact iteT (k H1 s1)
      | true =>
      rw [q2] at k
      refine iteF ?_
      refine ⟨_, rfl, _, rfl, _, _, rfl, .inl (SqL.of (Same.word s1 ha)), _, rfl, _, _, rfl, .inl (SqL.of (Same.word s1 ha)), v2, d2, _, _, rfl, hd2.same s1, _, rfl, ?_⟩
      rw [vS_len]
      cases q3 : listD (tags.length : Int) (tags.length : Int) d2 with
      | false =>
        rw [q3] at k
        exact iteT (k H1 s1)
      | true =>
      rw [q3] at k
      refine iteF ?_
      cases hd2 with
      | @lst b ys es hb hall2 =>
        rw [w_list] at hz
        have hzl := all_len es
        have hln2 := hall2.len
        have k : ∀ H', Same H H' → Q (.bl (es.all (wayD (many : Int)))) H' := k
        refine ⟨_, rfl, _, rfl, ⟨_, SqL.of (s1 _ _ hb)⟩, fun D hD => ?_⟩
        refine lc_map (walk_list (K := K) (a := b) (xs := ys)) hD (by omega) (fun H2 s2 => SqL.of (s2 _ _ (s1 _ _ hb))) (fun i => .bl (((es[i]?).map (wayD (many : Int))).getD false)) ?_ ?_
        · rintro i v H2 H3 kk hi s2 ⟨rfl, hy⟩ hk
          obtain ⟨d, hd, hv⟩ := hall2.get hy
          have e := hk _ (Same.refl H3)
          rw [hd] at e
          have e : kk (.bl (noneD d || numD 0 ((many : Int) - 1) d)) H3 := e
          refine ⟨rfl, _, rfl, rfl, _, rfl, ?_⟩
          have hv3 := hv.same (s1.trans s2)
          rw [dv_none hv]
          cases q : noneD d with
          | true =>
            rw [q] at e
            exact iteT e
          | false =>
            rw [q] at e
            refine iteF ?_
            exact ⟨_, rfl, _, rfl, _, _, rfl, rfl, v, d, _, _, rfl, hv3, e⟩
        · intro H2 s2 e
          rw [← hln2, range_map_get _ es (fun t => .bl (wayD (many : Int) t)) (fun i x hx => by rw [hx]; rfl)] at e
          refine ⟨_, es.map (wayD (many : Int)), rfl, SqL.of (by rw [e, List.map_map]; rfl), ?_⟩
          have e2 := k H2 (s1.trans s2)
          rw [List.all_map]
          exact e2
      | _ => cases q3
    | _ => exact iteT (k H (Same.refl H))
def spCheckTagsD (C : Addr) : Sp := fun vs H Q E => ∃ (v : V) (d : PyData), vs = [v] ∧ Dv H v d ∧ d.weight ≤ 10000 ∧ (∀ iv, tagsDue d = some iv → Bad C "index" iv H E) ∧ (tagsDue d = none → ∀ H', Same H H' → Q .non H')
theorem okx_check_tags (X : TX K mg) : FnOk P w K mg base (L2.CX P w) 3 X.d_check_tags.a X.d_check_tags.fd ["tags"] (spCheckTagsD X.e_InvalidTags) := by
  have nd := sc_check_tags.nd
  refine X.d_check_tags.F.okX sc_check_tags (fun vs H Q E h => ?_) (fun cdv A outer s H vs Q E hr h => ?_)
  · obtain ⟨v, d, rfl, _⟩ := h
    rfl
  · obtain ⟨v, d, rfl, hd, hz, hbad, hok⟩ := h
    refine ⟨_, (pss_cons (ps_if (pt_not (pt_val (pe_call (oka_is_list X) (hr.mono (by decide)) rfl X.d_is_list.mg X.d_is_list.F.kp X.d_is_list.b .nil pass0 (pa_cons (pv 0) (pa_cons pe_int (pa_cons (pe_gc rfl X.c_MOST_TAGS) pa_nil)))))) (pss_one (ps_raise rfl (takes_of rfl rfl rfl rfl) (pmk_oex X.xt_InvalidTags.oex X.xt_InvalidTags.iC X.xt_InvalidTags.tI (ok_InvalidTags___init__ X) (hr.mono (by decide)) X.d_InvalidTags___init__.b .nil pass0 rfl X.me_InvalidTags (pa_cons pe_non pa_nil)))) pss_nil) (pss_one (ps_for (passes_of rfl) rfl (QB.pi_enumK K (by rfl) X.n_enumerate (pa_cons (pv 0) pa_nil)) (pg_tup (by rfl) (pgs_cons (pg_name (i := 1) nd rfl (Or.inl rfl)) (pgs_cons (pg_name (i := 2) nd rfl (Or.inl rfl)) (pgs_nil)))) (pss_one (ps_if (PW.pt (pw_or (pt_not (pt_val (pe_call (oka_is_name X) (hr.mono (by decide)) rfl X.d_is_name.mg X.d_is_name.F.kp X.d_is_name.b .nil pass0 (pa_cons (pv 2) pa_nil)))) (pw_or1 (pt_cmpR (QB.op_inK K) (pv 2) (pe_slice (QB.sl_listK K) (pv 0) po_none (po_some (pv 1))) rfl)))) (pss_one (ps_raise rfl (takes_of rfl rfl rfl rfl) (pmk_oex X.xt_InvalidTags.oex X.xt_InvalidTags.iC X.xt_InvalidTags.tI (ok_InvalidTags___init__ X) (hr.mono (by decide)) X.d_InvalidTags___init__.b .nil pass0 rfl X.me_InvalidTags (pa_cons (pv 1) pa_nil)))) pss_nil))))), ?_⟩
    try dsimp only [Cx.nox, Cx.wish, cxOf]
    refine ⟨_, rfl, v, d, _, _, rfl, hd, ?_⟩
    refine ⟨_, rfl, ?_⟩
    cases q : listD 1 6 d with
    | false =>
      refine iteT ?_
      refine (hbad .non ?_).mk (K := K)
      cases d with
      | list ds =>
        have q : decide ((1 : Int) ≤ (ds.length : Int) ∧ (ds.length : Int) ≤ 6) = false := q
        rw [decide_eq_false_iff_not] at q
        show (if 1 ≤ ds.length ∧ ds.length ≤ 6 then _ else _) = _
        rw [if_neg (by omega)]
      | _ => rfl
    | true =>
    refine iteF ?_
    cases hd with
    | @lst a xs ds ha hall =>
      have q : decide ((1 : Int) ≤ (ds.length : Int) ∧ (ds.length : Int) ≤ 6) = true := q
      rw [decide_eq_true_eq] at q
      have hln := hall.len
      have due : tagsDue (.list ds) = idx (firstBad (badTag ds) ds.length) := by
        show (if 1 ≤ ds.length ∧ ds.length ≤ 6 then _ else _) = _
        rw [if_pos (by omega)]
      rw [due] at hbad hok
      rw [w_list] at hz
      refine ⟨_, rfl, _, _, rfl, SqL.of ha, ?_⟩
      refine for_it (walk_enum (K := K) (a := a) (xs := xs)) (fun i σ H' => ∃ v1 v2, σ = [some (.ref a), v1, v2] ∧ Same H H' ∧ ∀ j < i, badTag ds j = false) ⟨none, none, rfl, Same.refl H, fun j hj => by omega⟩ (fun i σ H' _ ⟨_, _, _, s1, _⟩ => SqL.of (s1 _ _ ha)) ?_ ?_
      · rintro i v σ H1 H2 hi ⟨v1, v2, rfl, s1, hno⟩ ⟨tp, x1, x2, rfl, ntp, rfl, e1, e2⟩
        have e1 : some (V.int (i : Int)) = some x1 := e1
        have e2 : xs[i]? = some x2 := e2
        cases e1
        obtain ⟨d2, hd2, hv2⟩ := hall.get e2
        have hm2 := List.mem_of_getElem? hd2
        have s2 := Same.new s1 (o := .tup [.int (i : Int), x2]) ntp
        refine ⟨tp, _, rfl, SqT.of upd_same, rfl, _, _, rfl, _, _, rfl, rfl, ?_⟩
        refine ⟨_, rfl, x2, d2, rfl, hv2.same s2, by have := all_mem hm2; omega, fun H3 s3 => ⟨_, rfl, ?_⟩⟩
        have s4 := s2.trans s3
        have hi2 : i < ds.length := by omega
        have before := names_before (by omega) hno
        have hb4 := hall.take i
        have hbe : badTag ds i = (!nameD d2 || (ds.take i).any fun e => sameS e d2) := by
          unfold badTag
          rw [hd2]
        have bad : badTag ds i = true → Bad X.e_InvalidTags "index" (.int (i : Int)) H E := fun z => hbad _ (by rw [first_at hi2 z hno]; rfl)
        cases hn : nameD d2 with
        | false =>
          refine iteT ?_
          rw [hn] at hbe
          exact ⟨_, rfl, ((bad hbe).same s4).mk (K := K)⟩
        | true =>
          refine iteF ?_
          rw [hn] at hbe
          refine ⟨_, rfl, _, rfl, _, rfl, _, rfl, a, _, rfl, SqL.of (s4 _ _ ha), fun q hq => ?_⟩
          rw [cut_take]
          cases hv2 with
          | str t =>
            refine ⟨q, _, rfl, .inl (SqL.of upd_same), rfl, names_flat hb4 before, _, rfl, ?_⟩
            rw [if_neg Bool.false_ne_true, names_in t hb4 before]
            have s5 := Same.new s4 (o := .lst (xs.take i)) hq
            cases hin : (ds.take i).any fun e => sameS e (.str t) with
            | true =>
              rw [hin] at hbe
              refine iteT ?_
              exact ⟨_, rfl, ((bad hbe).same s5).mk (K := K)⟩
            | false =>
              rw [hin] at hbe
              refine iteF ⟨_, _, rfl, s5, fun j hj => ?_⟩
              rcases Nat.lt_or_ge j i with z | z
              · exact hno j z
              · have : j = i := by omega
                subst this
                exact hbe
          | _ => cases hn
      · rintro σ H1 ⟨v1, v2, rfl, s1, hno⟩
        exact hok (by rw [first_none (fun i hi => hno i (by omega))]; rfl) H1 s1
    | _ => cases q
def spCheckStdsD (C : Addr) : Sp := fun vs H Q E => ∃ (a : Addr) (tags : List Str) (v : V) (d : PyData), vs = [.ref a, v] ∧ WordAt H a tags ∧ Dv H v d ∧ d.weight ≤ 10000 ∧ (∀ iv, stdsDue tags d = some iv → Bad C "index" iv H E) ∧ (stdsDue tags d = none → ∀ H', Same H H' → Q .non H')
theorem okx_check_standings (X : TX K mg) : FnOk P w K mg base (L2.CX P w) 4 X.d_check_standings.a X.d_check_standings.fd ["tags", "standings"] (spCheckStdsD X.e_InvalidEater) := by
  have nd := sc_check_standings.nd
  refine X.d_check_standings.F.okX sc_check_standings (fun vs H Q E h => ?_) (fun cdv A outer s H vs Q E hr h => ?_)
  · obtain ⟨a, tags, v, d, rfl, _⟩ := h
    rfl
  · obtain ⟨ta, tags, v, d, rfl, hta, hd, hz, hbad, hok⟩ := h
    refine ⟨_, (pss_cons (ps_if (pt_not (pt_val (pe_call (oka_is_list X) (hr.mono (by decide)) rfl X.d_is_list.mg X.d_is_list.F.kp X.d_is_list.b .nil pass0 (pa_cons (pv 1) (pa_cons pe_int (pa_cons (pe_gc rfl X.c_MOST_STANDINGS) pa_nil)))))) (pss_one (ps_raise rfl (takes_of rfl rfl rfl rfl) (pmk_oex X.xt_InvalidEater.oex X.xt_InvalidEater.iC X.xt_InvalidEater.tI (ok_InvalidEater___init__ X) (hr.mono (by decide)) X.d_InvalidEater___init__.b .nil pass0 rfl X.me_InvalidEater (pa_cons pe_non pa_nil)))) pss_nil) (pss_one (ps_for (passes_of rfl) rfl (QB.pi_enumK K (by rfl) X.n_enumerate (pa_cons (pv 1) pa_nil)) (pg_tup (by rfl) (pgs_cons (pg_name (i := 2) nd rfl (Or.inl rfl)) (pgs_cons (pg_name (i := 3) nd rfl (Or.inl rfl)) (pgs_nil)))) (pss_one (ps_if (pt_not (pt_val (pe_call (oka_is_standing X) (hr.mono (by decide)) rfl X.d_is_standing.mg X.d_is_standing.F.kp X.d_is_standing.b .nil pass0 (pa_cons (pv 0) (pa_cons (pe_callB (QB.call_lenK K) (by rfl) X.n_len PySem.boot_len (pa_cons (pv 1) pa_nil)) (pa_cons (pv 3) pa_nil)))))) (pss_one (ps_raise rfl (takes_of rfl rfl rfl rfl) (pmk_oex X.xt_InvalidEater.oex X.xt_InvalidEater.iC X.xt_InvalidEater.tI (ok_InvalidEater___init__ X) (hr.mono (by decide)) X.d_InvalidEater___init__.b .nil pass0 rfl X.me_InvalidEater (pa_cons (pv 2) pa_nil)))) pss_nil))))), ?_⟩
    try dsimp only [Cx.nox, Cx.wish, cxOf]
    refine ⟨_, rfl, v, d, _, _, rfl, hd, ?_⟩
    refine ⟨_, rfl, ?_⟩
    cases q : listD 1 30 d with
    | false =>
      refine iteT ?_
      refine (hbad .non ?_).mk (K := K)
      cases d with
      | list ds =>
        have q : decide ((1 : Int) ≤ (ds.length : Int) ∧ (ds.length : Int) ≤ 30) = false := q
        rw [decide_eq_false_iff_not] at q
        show (if 1 ≤ ds.length ∧ ds.length ≤ 30 then _ else _) = _
        rw [if_neg (by omega)]
      | _ => rfl
    | true =>
    refine iteF ?_
    cases hd with
    | @lst a xs ds ha hall =>
      have q : decide ((1 : Int) ≤ (ds.length : Int) ∧ (ds.length : Int) ≤ 30) = true := q
      rw [decide_eq_true_eq] at q
      have hln := hall.len
      have due : stdsDue tags (.list ds) = idx (firstBad (badStd tags ds) ds.length) := by
        show (if 1 ≤ ds.length ∧ ds.length ≤ 30 then _ else _) = _
        rw [if_pos (by omega)]
      rw [due] at hbad hok
      rw [w_list] at hz
      refine ⟨_, rfl, _, _, rfl, SqL.of ha, ?_⟩
      refine for_it (walk_enum (K := K) (a := a) (xs := xs)) (fun i σ H' => ∃ v1 v2, σ = [some (.ref ta), some (.ref a), v1, v2] ∧ Same H H' ∧ ∀ j < i, badStd tags ds j = false) ⟨none, none, rfl, Same.refl H, fun j hj => by omega⟩ (fun i σ H' _ ⟨_, _, _, s1, _⟩ => SqL.of (s1 _ _ ha)) ?_ ?_
      · rintro i v σ H1 H2 hi ⟨v1, v2, rfl, s1, hno⟩ ⟨tp, x1, x2, rfl, ntp, rfl, e1, e2⟩
        have e1 : some (V.int (i : Int)) = some x1 := e1
        have e2 : xs[i]? = some x2 := e2
        cases e1
        obtain ⟨d2, hd2, hv2⟩ := hall.get e2
        have hm2 := List.mem_of_getElem? hd2
        have s2 := Same.new s1 (o := .tup [.int (i : Int), x2]) ntp
        refine ⟨tp, _, rfl, SqT.of upd_same, rfl, _, _, rfl, _, _, rfl, rfl, ?_⟩
        refine ⟨_, rfl, _, rfl, _, _, rfl, .inl (SqL.of (s2 _ _ ha)), _, rfl, ta, tags, xs.length, x2, d2, rfl, Same.word s2 hta, hv2.same s2, by have := all_mem hm2; omega, fun H3 s3 => ?_⟩
        have s4 := s2.trans s3
        have hi2 : i < ds.length := by omega
        have hbe : badStd tags ds i = !stdD tags (xs.length : Int) d2 := by
          unfold badStd
          rw [hd2, hln]
        refine ⟨_, rfl, ?_⟩
        cases hn : stdD tags (xs.length : Int) d2 with
        | false =>
          rw [hn] at hbe
          refine iteT ?_
          exact ⟨_, rfl, ((hbad (.int (i : Int)) (by rw [first_at hi2 hbe hno]; rfl)).same s4).mk (K := K)⟩
        | true =>
          rw [hn] at hbe
          refine iteF ⟨_, _, rfl, s4, fun j hj => ?_⟩
          rcases Nat.lt_or_ge j i with z | z
          · exact hno j z
          · have : j = i := by omega
            subst this
            exact hbe
      · rintro σ H1 ⟨v1, v2, rfl, s1, hno⟩
        exact hok (by rw [first_none (fun i hi => hno i (by omega))]; rfl) H1 s1
    | _ => cases q
end
end Law
end

section
set_option Elab.async false
set_option linter.all false
set_option maxRecDepth 100000
set_option maxHeartbeats 4000000
namespace Law
open PySem PySem.Spec PyProof.Rows L2 LamX QB QM QV
theorem names_strs : ∀ {ds : List PyData}, (∀ d ∈ ds, nameD d = true) → ∃ wd : List Str, ds = wd.map .str ∧ ∀ t ∈ wd, NameOk t
  | [], _ => ⟨[], rfl, fun _ h => nomatch h⟩
  | d :: ds, h => by
    obtain ⟨wd, e, hn⟩ := names_strs fun x hx => h x (List.mem_cons_of_mem _ hx)
    have hd := h d List.mem_cons_self
    cases d with
    | str t =>
      refine ⟨t :: wd, by rw [e]; rfl, fun u hu => ?_⟩
      rcases List.mem_cons.mp hu with rfl | hu
      · exact nameB_to hd
      · exact hn u hu
    | _ => cases hd
theorem strs_eq {H : Hp} : ∀ {wd : List Str} {xs : List V}, DvAll H xs (wd.map .str) → xs = vS wd
  | [], _, h => by
    cases h
    rfl
  | t :: wd, _, h => by
    cases h with
    | cons h1 h2 =>
      cases h1
      rw [strs_eq h2]
      rfl
theorem same_any (t : Str) : ∀ wd : List Str, ((wd.map PyData.str).any fun e => sameS e (.str t)) = decide (t ∈ wd)
  | [] => rfl
  | u :: wd => by
    rw [List.map_cons, List.any_cons, same_any t wd]
    show ((u == t) || decide (t ∈ wd)) = decide (t ∈ u :: wd)
    by_cases h : u = t
    · subst h
      simp
    · rw [show (u == t) = false from beq_eq_false_iff_ne.mpr h]
      simp [Ne.symm h]
theorem tags_of {H : Hp} {v : V} {d : PyData} (h : Dv H v d) (hd : tagsDue d = none) : ∃ (a : Addr) (wd : List Str), v = .ref a ∧ WordAt H a wd ∧ TagsOk wd ∧ d = .list (wd.map .str) := by
  cases h with
  | @lst a xs ds ha hall =>
    have hd : (if 1 ≤ ds.length ∧ ds.length ≤ 6 then idx (firstBad (badTag ds) ds.length) else some .non) = none := hd
    by_cases hl : 1 ≤ ds.length ∧ ds.length ≤ 6
    · rw [if_pos hl] at hd
      have hn : firstBad (badTag ds) ds.length = none := by
        cases q : firstBad (badTag ds) ds.length with
        | none => rfl
        | some i =>
          rw [q] at hd
          cases hd
      have good := none_first hn
      have names : ∀ d ∈ ds, nameD d = true := fun d hm => names_before (Nat.le_refl _) good d (by rw [List.take_length]; exact hm)
      obtain ⟨wd, e, hw⟩ := names_strs names
      subst e
      rw [List.length_map] at hl
      refine ⟨a, wd, rfl, by rw [strs_eq hall] at ha; exact ha, ⟨hl.1, hl.2, ?_, hw⟩, rfl⟩
      unfold List.Nodup
      rw [List.pairwise_iff_getElem]
      intro i j hi hj hij z
      have b := good j (by rw [List.length_map]; exact hj)
      unfold badTag at b
      rw [List.getElem?_map, List.getElem?_eq_getElem hj] at b
      dsimp only [Option.map] at b
      rw [Bool.or_eq_false_iff, ← List.map_take, same_any] at b
      have nb := of_decide_eq_false b.2
      refine nb ?_
      rw [← z, List.mem_take_iff_getElem]
      exact ⟨i, by omega, rfl⟩
    · rw [if_neg hl] at hd
      cases hd
  | _ => cases hd
theorem word_of {H : Hp} {v : V} {d : PyData} {tags : List Str} (h : Dv H v d) (h1 : listD 0 8 d = true) (h2 : subjD tags d = true) : ∃ (a : Addr) (wd : Word), v = .ref a ∧ WordAt H a wd ∧ wd.length ≤ 8 ∧ ∀ t ∈ wd, t ∈ tags := by
  cases h with
  | @lst a xs ds ha hall =>
    have h1 : decide ((0 : Int) ≤ (ds.length : Int) ∧ (ds.length : Int) ≤ 8) = true := h1
    rw [decide_eq_true_eq] at h1
    have h2 : ds.all (tagD tags) = true := h2
    rw [List.all_eq_true] at h2
    have key : ∀ {ds : List PyData}, (∀ d ∈ ds, tagD tags d = true) → ∃ wd : List Str, ds = wd.map .str ∧ ∀ t ∈ wd, t ∈ tags := by
      intro ds
      induction ds with
      | nil => exact fun _ => ⟨[], rfl, fun _ h => nomatch h⟩
      | cons d ds ih =>
        intro h
        obtain ⟨wd, e, hn⟩ := ih fun x hx => h x (List.mem_cons_of_mem _ hx)
        have hd := h d List.mem_cons_self
        cases d with
        | str t =>
          refine ⟨t :: wd, by rw [e]; rfl, fun u hu => ?_⟩
          rcases List.mem_cons.mp hu with rfl | hu
          · exact of_decide_eq_true hd
          · exact hn u hu
        | _ => cases hd
    obtain ⟨wd, e, hw⟩ := key h2
    subst e
    rw [List.length_map] at h1
    exact ⟨a, wd, rfl, by rw [strs_eq hall] at ha; exact ha, by omega, hw⟩
  | _ => cases h1
theorem ways_eq {H : Hp} {many : Nat} : ∀ {ds : List PyData} {xs : List V}, DvAll H xs ds → (∀ d ∈ ds, wayD (many : Int) d = true) → ∃ ws : Ways, xs = vWs ws ∧ ws.length = ds.length ∧ ∀ m, some m ∈ ws → m < many
  | _, _, .nil, _ => ⟨[], rfl, rfl, fun _ h => nomatch h⟩
  | _, _, .cons (d := d) h1 h2, h => by
    obtain ⟨ws, e, hl, hm⟩ := ways_eq h2 fun x hx => h x (List.mem_cons_of_mem _ hx)
    have hd := h d List.mem_cons_self
    cases h1 with
    | non =>
      refine ⟨none :: ws, by rw [e]; rfl, by rw [List.length_cons, List.length_cons, hl], fun m hx => ?_⟩
      rcases List.mem_cons.mp hx with z | hx
      · cases z
      · exact hm m hx
    | int i =>
      have hd : decide ((0 : Int) ≤ i ∧ i ≤ (many : Int) - 1) = true := hd
      rw [decide_eq_true_eq] at hd
      refine ⟨some i.toNat :: ws, ?_, by rw [List.length_cons, List.length_cons, hl], fun m hx => ?_⟩
      · rw [e]
        show V.int i :: _ = V.int ((i.toNat : Nat) : Int) :: _
        rw [Int.toNat_of_nonneg hd.1]
        rfl
      · rcases List.mem_cons.mp hx with z | hx
        · cases z
          omega
        · exact hm m hx
    | _ => cases hd
theorem std_of {H : Hp} {v : V} {d : PyData} {tags : List Str} {many : Nat} (h : Dv H v d) (hs : stdD tags (many : Int) d = true) : ∃ (t : Addr) (s : Std), v = .ref t ∧ StdAt H t s ∧ StdOk tags many s := by
  cases h with
  | @tup t xs ds ht hall =>
    cases hall with
    | nil => exact absurd hs Bool.false_ne_true
    | @cons v1 _ d1 _ h1 h2 =>
    cases h2 with
    | nil => exact absurd hs Bool.false_ne_true
    | @cons v2 _ d2 _ h2 h3 =>
    cases h3 with
    | cons _ _ => exact absurd hs Bool.false_ne_true
    | nil =>
      have hs : (listD 0 8 d1 && (subjD tags d1 && (listD (tags.length : Int) (tags.length : Int) d2 && waysD (many : Int) d2))) = true := hs
      rw [Bool.and_eq_true, Bool.and_eq_true, Bool.and_eq_true] at hs
      obtain ⟨q1, q2, q3, q4⟩ := hs
      obtain ⟨a, wd, rfl, hw, hl, hin⟩ := word_of h1 q1 q2
      cases h2 with
      | @lst b ys es hb hall2 =>
        have q3 : decide ((tags.length : Int) ≤ (es.length : Int) ∧ (es.length : Int) ≤ (tags.length : Int)) = true := q3
        rw [decide_eq_true_eq] at q3
        have q4 : es.all (wayD (many : Int)) = true := q4
        rw [List.all_eq_true] at q4
        obtain ⟨ws, e, hl2, hm⟩ := ways_eq hall2 q4
        subst e
        exact ⟨t, (wd, ws), rfl, ⟨a, b, ht, hw, hb⟩, ⟨hl, hin, by show ws.length = _; omega, hm⟩⟩
      | _ => cases q3
  | _ => cases hs
theorem form_of {H : Hp} {v : V} {d : PyData} {tags : List Str} (h : Dv H v d) (hs : stdsDue tags d = none) : ∃ (b : Addr) (F : Form), v = .ref b ∧ FormAt H b F ∧ FormOk tags F := by
  cases h with
  | @lst a xs ds ha hall =>
    have hd : (if 1 ≤ ds.length ∧ ds.length ≤ 30 then idx (firstBad (badStd tags ds) ds.length) else some .non) = none := hs
    by_cases hl : 1 ≤ ds.length ∧ ds.length ≤ 30
    · rw [if_pos hl] at hd
      have hn : firstBad (badStd tags ds) ds.length = none := by
        cases q : firstBad (badStd tags ds) ds.length with
        | none => rfl
        | some i =>
          rw [q] at hd
          cases hd
      have good : ∀ d ∈ ds, stdD tags (ds.length : Int) d = true := fun d hm => by
        obtain ⟨i, hi, e⟩ := List.mem_iff_getElem.mp hm
        have b := none_first hn i hi
        unfold badStd at b
        rw [List.getElem?_eq_getElem hi, e] at b
        simpa using b
      have key : ∀ {es : List PyData} {ys : List V}, DvAll H ys es → (∀ d ∈ es, stdD tags (ds.length : Int) d = true) → ∃ (ts : List Addr) (F : Form), ys = ts.map V.ref ∧ Paired (StdAt H) ts F ∧ F.length = es.length ∧ ∀ s ∈ F, StdOk tags ds.length s := by
        intro es
        induction es with
        | nil =>
          intro ys h _
          cases h
          exact ⟨[], [], rfl, .nil, rfl, fun _ h => nomatch h⟩
        | cons e es ih =>
          intro ys h hg
          cases h with
          | cons h1 h2 =>
            obtain ⟨ts, F, e1, e2, e3, e4⟩ := ih h2 fun x hx => hg x (List.mem_cons_of_mem _ hx)
            obtain ⟨t, s, rfl, hst, hok⟩ := std_of h1 (hg e List.mem_cons_self)
            refine ⟨t :: ts, s :: F, by rw [e1]; rfl, .cons hst e2, by rw [List.length_cons, List.length_cons, e3], fun x hx => ?_⟩
            rcases List.mem_cons.mp hx with rfl | hx
            · exact hok
            · exact e4 x hx
      obtain ⟨ts, F, e1, e2, e3, e4⟩ := key hall good
      subst e1
      exact ⟨a, F, rfl, ⟨ts, ha, e2⟩, by omega, by omega, by rw [e3]; exact e4⟩
    · rw [if_neg hl] at hd
      cases hd
  | _ => cases hs
/-- what comes of making an eater -/
inductive Due
  | made
  | tags (iv : V)
  | eater (iv : V)
def strOfD : PyData → Option Str
  | .str t => some t
  | _ => none
def tagsIn : PyData → List Str
  | .list ds => ds.filterMap strOfD
  | _ => []
def dueD (dv dy : PyData) : Due := match tagsDue dv with
  | some iv => .tags iv
  | none => match stdsDue (tagsIn dv) dy with
    | some iv => .eater iv
    | none => .made
theorem tagsIn_strs (wd : List Str) : tagsIn (.list (wd.map .str)) = wd := by
  show (wd.map PyData.str).filterMap strOfD = wd
  rw [List.filterMap_map]
  induction wd with
  | nil => rfl
  | cons t wd ih =>
    rw [List.filterMap_cons]
    show t :: _ = _
    rw [ih]
section
variable {P : Program} {w : World} {K : PySem.W.Frag} {mg : Str → Option Value} {base : Heap}
def spInitD (T : List (Addr × Str)) (C CT CE : Addr) : Sp := fun vs H Q E => ∃ (x dx : Addr) (v y : V) (dv dy : PyData) (H0 : Hp), vs = [.ref x, v, y] ∧ H x = some (.ins C dx []) ∧ Dv H v dv ∧ Dv H y dy ∧ dv.weight ≤ 10000 ∧ dy.weight ≤ 10000 ∧ Tabs T H ∧ QB.Ext T H0 H ∧ Fresh H0 x ∧
  match dueD dv dy with
  | .made => ∀ H', QB.Ext T H0 H' → Tabs T H' → Q .non H'
  | .tags iv => Bad CT "index" iv H E
  | .eater iv => Bad CE "index" iv H E
theorem okx_Eater___init__ (X : TX K mg) (TB : LamX.TabB base mg X.lam_c X.lam_P) : FnOk P w K mg base (L2.CX P w) 5 X.d_Eater___init__.a X.d_Eater___init__.fd ["self", "tags", "standings"] (spInitD (Tof X) X.c_Eater X.e_InvalidTags X.e_InvalidEater) := by
  have nd := sc_Eater___init__.nd
  refine X.d_Eater___init__.F.okX sc_Eater___init__ (fun vs H Q E h => ?_) (fun cdv A outer s H vs Q E hr h => ?_)
  · obtain ⟨x, dx, v, y, dv, dy, H0, rfl, _⟩ := h
    rfl
  · obtain ⟨x, dx, v, y, dv, dy, H0, rfl, hx, hv, hy, zv, zy, tb, e0, fx, h⟩ := h
    refine ⟨_, (pss_cons (ps_expr (pe_call (okx_check_tags X) (hr.mono (by decide)) rfl X.d_check_tags.mg X.d_check_tags.F.kp X.d_check_tags.b .nil (passes_call (takes_of rfl rfl rfl rfl) (fun _ _ _ _ h => h)) (pa_cons (pv 1) pa_nil))) (pss_cons (ps_expr (pe_call (okx_check_standings X) (hr.mono (by decide)) rfl X.d_check_standings.mg X.d_check_standings.F.kp X.d_check_standings.b .nil (passes_call (takes_of rfl rfl rfl rfl) (fun _ _ _ _ h => h)) (pa_cons (pv 1) (pa_cons (pv 2) pa_nil)))) (pss_cons (ps_fld (pv 0) (pe_callTy (QB.call_listK K) (by rfl) X.n_list QB.bo_list (pa_cons (pv 1) pa_nil)) rfl) (pss_one (ps_fld (pv 0) (pe_call (ok_least_form X TB) (hr.mono (by decide)) rfl X.d_least_form.mg X.d_least_form.F.kp X.d_least_form.b .nil pass0 (pa_cons (pv 1) (pa_cons (pv 2) pa_nil))) rfl))))), ?_⟩
    try dsimp only [Cx.nox, Cx.wish, cxOf]
    unfold dueD at h
    refine ⟨_, rfl, v, dv, rfl, hv, zv, fun iv e => ?_, fun e H1 s1 => ?_⟩
    · rw [e] at h
      exact h
    rw [e] at h
    obtain ⟨a, tags, rfl, ha, to, rfl⟩ := tags_of hv e
    have htl := to.len
    dsimp only at h
    rw [tagsIn_strs] at h
    refine ⟨_, rfl, _, rfl, a, tags, y, dy, rfl, Same.word s1 ha, hy.same s1, zy, fun iv e2 => ?_, fun e2 H2 s2 => ?_⟩
    · rw [e2] at h
      exact h.same s1
    rw [e2] at h
    have k : ∀ H', QB.Ext (Tof X) H0 H' → Tabs (Tof X) H' → Q .non H' := h
    obtain ⟨b, F, rfl, hb, fo⟩ := form_of hy e2
    have s12 := s1.trans s2
    refine ⟨_, rfl, ?_⟩
    dsimp only [tNil]
    refine ⟨_, _, rfl, .inl (SqL.of (Same.word s12 ha)), fun l hl => ?_⟩
    have sA : Same H (upd H2 l (.lst (vS tags))) := Same.new s12 hl
    have hxA := sA _ _ hx
    refine ⟨_, rfl, x, _, _, _, rfl, hxA, X.cl_Eater, X.na_Eater__tags, by decide, ?_⟩
    have haA : WordAt (upd H2 l (.lst (vS tags))) l tags := upd_same
    generalize upd H2 l (.lst (vS tags)) = HA at sA hxA haA ⊢
    have eB := (e0.trans (.of sA)).mut (o := .ins X.c_Eater dx [("_tags", .ref l)]) fx hxA
    have tB := tabs_mut (o := .ins X.c_Eater dx [("_tags", .ref l)]) (tb.ext sA) hxA True.intro
    refine ⟨_, rfl, _, rfl, a, b, tags, F, rfl, wordIns (Same.word sA ha) hxA, formIns (Same.form sA hb) hxA, fo.good, fo.words to, by omega, tB, fun p L H3 e3 t3 n3 => ?_⟩
    have hx3 := e3.get (p := x) upd_same
    refine ⟨_, rfl, x, _, _, _, rfl, hx3, X.cl_Eater, X.na_Eater__standings, by show (1 : Nat) < 1000; omega, ?_⟩
    exact k _ ((eB.trans e3).mut fx hx3) (tabs_mut t3 hx3 True.intro)
end
end Law
end

section
set_option Elab.async false
set_option linter.all false
set_option maxRecDepth 100000
/-! Qmore: rules with the written part named, for turned lists and the truth of a list. -/
namespace QN
open PySem PySem.Spec PyProof.Rows L2
section
variable {X : Cx} (K : PySem.W.Frag)
theorem pe_turn {e : Expr} {te : TE} {k : Nat} {p1 p2 p3 pos : Pos} (he : PE X e te) (h : X.K = K := by rfl) : PE X (.Subscript e (.Slice none none (some (.UnaryOp .USub (.Constant (.int 1) k p1) p2)) p3) pos) (tRevL K te) := h ▸ pe_revL he
def tTru (K : PySem.W.Frag) (ta : TE) : TT := fun σ H Q => ta σ H fun x H' => ∃ k, TruV K x H' k ∧ Q k H'
theorem pt_tru {a : Expr} {ta : TE} (ha : PE X a ta) (h : X.K = K := by rfl) (he : ∀ whole, isTrue a X.env whole = (do let v ← whole; standAt a.pos; holding [v] (truthy v)) := by intro _; rfl) : PT X a (tTru K ta) := h ▸ pt_truth ha he
theorem sl_tupK (h : X.K = K := by rfl) : SlR X (rSlT K) := h ▸ sl_tup
end
end QN
namespace QB
open PySem PySem.Spec PyProof.Rows L2
theorem enc_nat : Enc (fun n : Nat => PyData.int (n : Int)) (fun _ => True) 0 := ⟨fun x y => by
  have e := enc_int.eq (x : Int) (y : Int)
  rw [e]
  by_cases h : x = y
  · subst h
    simp
  · rw [decide_eq_false h, decide_eq_false (by omega)], fun x _ => enc_int.lay (x : Int) trivial, fun x => enc_int.dep (x : Int)⟩
def dNats (row : List Nat) : PyData := .list (row.map fun n : Nat => PyData.int (n : Int))
theorem enc_nats : Enc dNats (fun l => ∀ x ∈ l, True) 1 := enc_nat.list
theorem dp_nats {K : PySem.W.Frag} {H : Hp} {a : Addr} {row : List Nat} (h : H a = some (.lst (row.map fun (n : Nat) => V.int (n : Int)))) : Dp K H (.ref a) (dNats row) := .lst (SqL.of h) (dpAll_map _ _ (fun x => .int _) row)
end QB
end

section
set_option Elab.async false
set_option linter.all false
set_option maxRecDepth 100000
set_option maxHeartbeats 4000000
namespace Law
open PySem PySem.Spec PyProof.Rows L2 LamX QB QM QV
/-- the text of a word -/
def writ (wd : Word) : Str := if wd = [] then "-" else Txt.join " " wd
/-- the word of a text, if it tells one -/
def rd (tags : Word) (most : Nat) (t : Str) : Option Word :=
  if t = "-" then some [] else if (Txt.split t " ").length ≤ most ∧ ∀ u ∈ Txt.split t " ", u ∈ tags then some (Txt.split t " ") else none
def ShortW (wd : Word) : Prop := (wd.map (·.length)).sum + wd.length ≤ 100000
section
variable {P : Program} {w : World} {K : PySem.W.Frag} {mg : Str → Option Value} {base : Heap}
def spWritten : Sp := fun vs H Q _ => ∃ (a : Addr) (wd : Word), vs = [.ref a] ∧ WordAt H a wd ∧ ShortW wd ∧ Q (.str (writ wd)) H
theorem ok_written (X : TX K mg) : FnOk P w K mg base CX0 1 X.d_written.a X.d_written.fd ["subject"] spWritten := by
  have nd := sc_written.nd
  refine X.d_written.F.ok sc_written (fun vs H Q E h => ?_) (fun cdv A outer s H vs Q E hr h => ?_)
  · obtain ⟨a, wd, rfl, _⟩ := h
    rfl
  · obtain ⟨a, wd, rfl, ha, hs, k⟩ := h
    refine ⟨_, (pss_one (ps_ret (pe_ifExp (QN.pt_tru K (pv 0)) (pe_join pe_str (pv 0)) (pe_gc rfl X.c_NO_TAGS)))), ?_⟩
    try dsimp only [Cx.nox, Cx.wish, cxOf]
    unfold ShortW at hs
    unfold writ at k
    cases wd with
    | nil =>
      refine ⟨_, rfl, false, .inl ⟨_, SqL.of ha, rfl⟩, ?_⟩
      rw [if_pos rfl] at k
      exact iteF k
    | cons u wd =>
      refine ⟨_, rfl, true, .inl ⟨_, SqL.of ha, rfl⟩, ?_⟩
      rw [if_neg (fun z => nomatch z)] at k
      refine iteT ?_
      refine ⟨⟨_, rfl⟩, _, rfl, _, a, u :: wd, rfl, rfl, .inl (SqL.of ha), ?_, k⟩
      show _ + _ * 1 ≤ 16777216
      omega
def spReadWord : Sp := fun vs H Q _ => ∃ (a : Addr) (tags : Word) (t : Str) (most : Nat), vs = [.ref a, .str t, .int (most : Int)] ∧ WordAt H a tags ∧ t.length ≤ 10000 ∧
  ∀ (v : V) (H' : Hp), Same H H' → ((v = .non ∧ rd tags most t = none) ∨ ∃ (p : Addr) (wd : Word), v = .ref p ∧ H p = none ∧ WordAt H' p wd ∧ rd tags most t = some wd) → Q v H'
theorem ok_read_word (X : TX K mg) : FnOk P w K mg base CX0 1 X.d_read_word.a X.d_read_word.fd ["tags", "text", "most"] spReadWord := by
  have nd := sc_read_word.nd
  refine X.d_read_word.F.ok sc_read_word (fun vs H Q E h => ?_) (fun cdv A outer s H vs Q E hr h => ?_)
  · obtain ⟨a, tags, t, most, rfl, _⟩ := h
    rfl
  · obtain ⟨a, tags, t, most, rfl, ha, hz, k⟩ := h
    refine ⟨_, (pss_cons (ps_if (pt_cmpR op_eq (pv 1) (pe_gc rfl X.c_NO_TAGS) (nomark _)) (pss_one (ps_ret (pe_lst pa_nil))) pss_nil) (pss_cons (ps_set (i := 3) nd rfl (Or.inl rfl) (pe_split (pv 1) pe_str)) (pss_cons (ps_if (PW.pt (pw_or (pt_cmpR op_gt (pe_callB (QB.call_lenK K) (by rfl) X.n_len PySem.boot_len (pa_cons (pv 3) pa_nil)) (pv 2) (nomark _)) (pw_or1 (pt_not (pt_val (pe_callB (QB.cr_allK K rfl) (by rfl) X.n_all QB.bo_all (pa_cons (pe_lc (own := [("tag", 4)]) (g := gName 4) (tt := tYes) rfl nd (QB.pi_listK K (pv 3)) (blkOk_by (N := ["tags", "text", "most", "word", "tag"]) (sc := defScope s_read_word) (by decide +kernel)) (fun _ _ _ _ _ => pg_name (i := 4) nd rfl (Or.inl rfl)) (fun _ _ _ _ _ => pts_nil) (fun _ _ _ _ _ => (pe_cmpR (QB.op_inK K) (pv 4) (pv 0) rfl))) pa_nil))))))) (pss_one (ps_ret pe_non)) pss_nil) (pss_one (ps_ret (pv 3)))))), ?_⟩
    try dsimp only [Cx.nox, Cx.wish, cxOf]
    unfold rd at k
    refine ⟨_, rfl, rfl, _, rfl, ?_⟩
    by_cases hd : t = Str.ofString "-"
    · subst hd
      rw [decide_eq_true rfl]
      refine iteT ?_
      refine ⟨by show 0 ≤ sizeLine; decide, fun p hp => ?_⟩
      exact k _ _ (same_new hp) (.inr ⟨p, [], rfl, hp, upd_same, if_pos rfl⟩)
    rw [decide_eq_false (fun e => hd (V.str.inj e))]
    refine iteF ?_
    have hs := split_le t " "
    refine ⟨_, rfl, ⟨_, rfl⟩, t, _, rfl, rfl, by decide, sz_le (by omega), fun q hq => ?_⟩
    have e1 : (if t = Str.ofString "-" then some [] else if (Txt.split t " ").length ≤ most ∧ ∀ u ∈ Txt.split t " ", u ∈ tags then some (Txt.split t " ") else none) = if (Txt.split t " ").length ≤ most ∧ ∀ u ∈ Txt.split t " ", u ∈ tags then some (Txt.split t " ") else none := if_neg hd
    have k : ∀ (v : V) (H' : Hp), Same H H' → ((v = .non ∧ (if (Txt.split t " ").length ≤ most ∧ ∀ u ∈ Txt.split t " ", u ∈ tags then some (Txt.split t " ") else none) = none) ∨ ∃ (p : Addr) (wd : Word), v = .ref p ∧ H p = none ∧ WordAt H' p wd ∧ (if (Txt.split t " ").length ≤ most ∧ ∀ u ∈ Txt.split t " ", u ∈ tags then some (Txt.split t " ") else none) = some wd) → Q v H' := fun v H' s' h => k v H' s' (by
      have e1 : (if t = "-" then some [] else if (Txt.split t " ").length ≤ most ∧ ∀ u ∈ Txt.split t " ", u ∈ tags then some (Txt.split t " ") else none) = _ := e1
      rw [e1]
      exact h)
    clear e1
    have s1 := same_new (o := .lst ((Txt.split t " ").map V.str)) hq
    have k1 : WordAt (upd H q (.lst ((Txt.split t " ").map V.str))) q (Txt.split t " ") := upd_same
    have hlw : (Txt.split t (Str.ofString " ")).length ≤ 10002 := by
      have hs : (Txt.split t (Str.ofString " ")).length ≤ t.length + 2 := hs
      omega
    change tSeq _ _ _ _ (upd H q (.lst ((Txt.split t " ").map V.str)))
    generalize upd H q (.lst ((Txt.split t " ").map V.str)) = H1 at s1 k1 ⊢
    have hlw : (Txt.split t " ").length ≤ 10002 := hlw
    generalize Txt.split t " " = wd at k k1 hlw
    refine ⟨_, rfl, _, _, rfl, .inl (SqL.of k1), _, rfl, _, _, rfl, rfl, _, rfl, ?_⟩
    rw [vS_len]
    by_cases hl : wd.length ≤ most
    case neg =>
      rw [decide_eq_true (by omega)]
      refine iteT ?_
      exact k _ _ s1 (.inl ⟨rfl, if_neg fun z => hl z.1⟩)
    rw [decide_eq_false (by omega)]
    refine iteF ?_
    refine ⟨_, rfl, _, rfl, ⟨_, SqL.of k1⟩, fun D hD => ?_⟩
    refine lc_map (walk_listW (K := K) (a := q) (w := wd)) hD (by omega) (fun H2 s2 => Same.word s2 k1) (fun i => .bl (decide ((wd[i]?).getD "" ∈ tags))) ?_ ?_
    · rintro i x H2 H3 kk hi s2 ⟨y, hy, rfl, rfl⟩ hk
      have e := hk _ (Same.refl H3)
      rw [hy] at e
      refine ⟨rfl, _, rfl, _, rfl, a, vS tags, rfl, .inl (SqL.of (Same.word (s1.trans s2) ha)), rfl, vS_flat, ?_⟩
      rw [if_neg Bool.false_ne_true, inV_word]
      exact e
    · intro H2 s2 e
      rw [range_map_get _ wd (fun t => .bl (decide (t ∈ tags))) (fun i x hx => by rw [hx]; rfl)] at e
      refine ⟨_, wd.map fun t => decide (t ∈ tags), rfl, SqL.of (by rw [e, List.map_map]; rfl), ?_⟩
      rw [List.all_map]
      have s12 := s1.trans s2
      by_cases hin : ∀ u ∈ wd, u ∈ tags
      · rw [show (wd.all (id ∘ fun t => decide (t ∈ tags))) = true from List.all_eq_true.mpr fun t ht => decide_eq_true (hin t ht)]
        refine ⟨_, rfl, iteF ?_⟩
        exact ⟨_, rfl, k _ H2 s12 (.inr ⟨q, wd, rfl, hq, Same.word s2 k1, if_pos ⟨hl, hin⟩⟩)⟩
      · rw [show (wd.all (id ∘ fun t => decide (t ∈ tags))) = false from by
          rw [List.all_eq_false]
          simpa using hin]
        refine ⟨_, rfl, iteT ?_⟩
        exact k _ H2 s12 (.inl ⟨rfl, if_neg fun z => hin z.2⟩)
end
end Law
end

section
set_option Elab.async false
set_option linter.all false
set_option maxRecDepth 100000
set_option maxHeartbeats 4000000
namespace Law
open PySem PySem.Spec PyProof.Rows L2 LamX QB QM QV
def digits : Str := "0123456789"
/-- a number written without needless zeros -/
def numeral (t : Str) : Bool := match t.cps.toList with
  | [] => false
  | c :: r => (c :: r).all (fun c => decide (c ∈ digits.cps.toList)) && (decide (t = Str.ofString "0") || !decide (c = 48))
def rdWay (tags : Word) (t : Str) : Option (Nat × Str) :=
  if (Txt.partition t "=").1 ∈ tags ∧ numeral (Txt.partition t "=").2.2 = true then some (tags.idxOf (Txt.partition t "=").1, (Txt.partition t "=").2.2) else none
open TL PySem.Builtin.Str in
theorem partition_len (x y : Str) : (Txt.partition x y).1.length ≤ x.length ∧ (Txt.partition x y).2.2.length ≤ x.length := by
  rcases PyProof.Rows.partition_whole x y with ⟨e, _⟩ | ⟨i, e, hi, _⟩
  · rw [e]
    exact ⟨Nat.le_refl _, Nat.zero_le _⟩
  · rw [e]
    have h1 : (strSub x 0 i).length = (tl (strSub x 0 i)).length := rfl
    have h2 : (strSub x (i + y.length) x.length).length = (tl (strSub x (i + y.length) x.length)).length := rfl
    have h3 : x.length = (tl x).length := rfl
    refine ⟨?_, ?_⟩
    · show (strSub x 0 i).length ≤ _
      rw [h1, TL.tl_strSub, List.length_take, List.length_drop, h3]
      omega
    · show (strSub x (i + y.length) x.length).length ≤ _
      rw [h2, TL.tl_strSub_end, List.length_drop, h3]
      omega
section
variable {P : Program} {w : World} {K : PySem.W.Frag} {mg : Str → Option Value} {base : Heap}
def spIsNumeral : Sp := fun vs H Q _ => ∃ t : Str, vs = [.str t] ∧ t.length ≤ 10000 ∧ ∀ H', Same H H' → Q (.bl (numeral t)) H'
theorem ok_is_numeral (X : TX K mg) : FnOk P w K mg base CX0 1 X.d_is_numeral.a X.d_is_numeral.fd ["text"] spIsNumeral := by
  have nd := sc_is_numeral.nd
  refine X.d_is_numeral.F.ok sc_is_numeral (fun vs H Q E h => ?_) (fun cdv A outer s H vs Q E hr h => ?_)
  · obtain ⟨t, rfl, _⟩ := h
    rfl
  · obtain ⟨t, rfl, hz, k⟩ := h
    refine ⟨_, (pss_cons (ps_if (PW.pt (pw_or (pt_not (QN.pt_tru K (pv 0))) (pw_or1 (pt_not (pt_val (pe_callB (QB.cr_allK K rfl) (by rfl) X.n_all QB.bo_all (pa_cons (pe_lc (own := [("sign", 1)]) (g := gName 1) (tt := tYes) rfl nd (pi_str (pv 0)) (blkOk_by (N := ["text", "sign"]) (sc := defScope s_is_numeral) (by decide +kernel)) (fun _ _ _ _ _ => pg_name (i := 1) nd rfl (Or.inl rfl)) (fun _ _ _ _ _ => pts_nil) (fun _ _ _ _ _ => (pe_cmpR op_in_sign (pv 1) (pe_gc rfl X.c_DIGITS) rfl))) pa_nil))))))) (pss_one (ps_ret pe_bl)) pss_nil) (pss_one (ps_ret (pe_or (pe_cmpR op_eq (pv 0) pe_str (nomark _)) (pe_one (pe_cmpR op_ne (pe_item_str (pv 0) pe_int (fun _ _ => rfl)) pe_str (nomark _))))))), ?_⟩
    try dsimp only [Cx.nox, Cx.wish, cxOf]
    unfold numeral at k
    have e0 : t.cps.size = t.cps.toList.length := rfl
    have e1 : t.cps.size = t.length := rfl
    refine ⟨_, rfl, _, ⟨sz_le (by omega), rfl⟩, ?_⟩
    cases hl : t.cps.toList with
    | nil =>
      rw [hl] at k e0
      have e2 : t.length = 0 := by rw [← e1, e0]; rfl
      rw [e2]
      exact iteT (k H (Same.refl H))
    | cons c r =>
      rw [hl] at k e0
      have k : ∀ H', Same H H' → Q (.bl ((c :: r).all (fun c => decide (c ∈ digits.cps.toList)) && (decide (t = Str.ofString "0") || !decide (c = 48)))) H' := k
      have e2 : t.length = r.length + 1 := by rw [← e1, e0]; rfl
      rw [show ((t.length : Int) != 0) = true by rw [e2, bne_iff_ne]; omega]
      refine iteF ?_
      refine ⟨_, rfl, t, rfl, fun D hD => ?_⟩
      refine lc_map walk_str hD (by omega) (fun _ _ => True.intro) (fun i => .bl (((t.cps.toList[i]?).map fun c => decide (c ∈ digits.cps.toList)).getD false)) ?_ ?_
      · rintro i x H1 H2 kk hi s1 ⟨rfl, c, hc, rfl⟩ hk
        refine ⟨rfl, _, rfl, c, digits, rfl, rfl, ?_⟩
        have hc2 : t.cps.toList[i]? = some c := by simpa using hc
        have e := hk _ (Same.refl H2)
        rw [hc2] at e
        exact e
      · intro H1 s1 e
        rw [show t.cps.size = t.cps.toList.length from rfl, range_map_get _ t.cps.toList (fun c => .bl (decide (c ∈ digits.cps.toList))) (fun i x hx => by rw [hx]; rfl)] at e
        refine ⟨_, t.cps.toList.map fun c => decide (c ∈ digits.cps.toList), rfl, SqL.of (by rw [e, List.map_map]; rfl), ?_⟩
        rw [List.all_map, hl]
        refine ⟨_, rfl, ?_⟩
        cases q : (c :: r).all (id ∘ fun c => decide (c ∈ digits.cps.toList)) with
        | false =>
          have q : (c :: r).all (fun c => decide (c ∈ digits.cps.toList)) = false := q
          rw [q] at k
          exact iteT (k H1 s1)
        | true =>
          have q : (c :: r).all (fun c => decide (c ∈ digits.cps.toList)) = true := q
          rw [q] at k
          refine iteF ?_
          have k : Q (.bl (decide (t = Str.ofString "0") || !decide (c = 48))) H1 := k H1 s1
          refine ⟨_, rfl, rfl, _, rfl, ?_⟩
          by_cases h0 : t = Str.ofString "0"
          · rw [decide_eq_true h0] at k
            rw [decide_eq_true (congrArg V.str h0)]
            exact iteT k
          rw [decide_eq_false h0] at k
          rw [decide_eq_false (fun z => h0 (V.str.inj z))]
          refine iteF ?_
          refine ⟨_, rfl, t, 0, c, rfl, rfl, by decide, by decide, by omega, ?_, rfl, ?_⟩
          · rw [← Array.getElem?_toList, hl]
            rfl
          have e3 : decide (V.str ⟨#[c]⟩ = V.str (Str.ofString "0")) = decide (c = 48) := by
            refine decide_eq_decide.mpr ⟨fun z => ?_, fun z => by rw [z]; rfl⟩
            have z : (⟨#[c]⟩ : Str) = ⟨#[48]⟩ := V.str.inj z
            injection z with z
            have := congrArg Array.toList z
            simpa using this
          rw [e3]
          exact k
def spReadWay : Sp := fun vs H Q _ => ∃ (a : Addr) (tags : Word) (t : Str), vs = [.ref a, .str t] ∧ WordAt H a tags ∧ t.length ≤ 10000 ∧
  ∀ (v : V) (H' : Hp), Same H H' → ((v = .non ∧ rdWay tags t = none) ∨ ∃ (p : Addr) (i : Nat) (d : Str), v = .ref p ∧ H' p = some (.tup [.int (i : Int), .str d]) ∧ rdWay tags t = some (i, d)) → Q v H'
theorem ok_read_way (X : TX K mg) : FnOk P w K mg base CX0 2 X.d_read_way.a X.d_read_way.fd ["tags", "text"] spReadWay := by
  have nd := sc_read_way.nd
  refine X.d_read_way.F.ok sc_read_way (fun vs H Q E h => ?_) (fun cdv A outer s H vs Q E hr h => ?_)
  · obtain ⟨a, tags, t, rfl, _⟩ := h
    rfl
  · obtain ⟨a, tags, t, rfl, ha, hz, k⟩ := h
    refine ⟨_, (pss_cons (ps_asg (pe_partition (pv 1) pe_str) (pg_tup (by rfl) (pgs_cons (pg_name (i := 2) nd rfl (Or.inl rfl)) (pgs_cons (pg_name (i := 3) nd rfl (Or.inl rfl)) (pgs_cons (pg_name (i := 4) nd rfl (Or.inl rfl)) (pgs_nil)))))) (pss_cons (ps_if (PW.pt (pw_or (pt_cmpR (QB.op_notInK K) (pv 2) (pv 0) rfl) (pw_or1 (pt_not (pt_val (pe_call (ok_is_numeral X) (hr.mono (by decide)) rfl X.d_is_numeral.mg X.d_is_numeral.F.kp X.d_is_numeral.b .nil pass0 (pa_cons (pv 4) pa_nil))))))) (pss_one (ps_ret pe_non)) pss_nil) (pss_one (ps_ret (pe_tup (pa_cons (QB.pe_bmK K PySem.F.plainAttrs_list PySem.F.slot_list_index PySem.F.type_list_index (QB.mt_indexK K) (pv 0) (pa_cons (pv 2) pa_nil)) (pa_cons (pv 4) pa_nil))))))), ?_⟩
    try dsimp only [Cx.nox, Cx.wish, cxOf]
    unfold rdWay at k
    refine ⟨_, rfl, ⟨_, rfl⟩, t, _, rfl, rfl, by decide, sz_le (by omega), fun q hq => ?_⟩
    have s1 := same_new (o := .tup [.str (Txt.partition t "=").1, .str (Txt.partition t "=").2.1, .str (Txt.partition t "=").2.2]) hq
    generalize hP : Txt.partition t (Str.ofString "=") = z at k s1 ⊢
    obtain ⟨u, m, d⟩ := z
    have hd : d.length ≤ t.length := by
      have := partition_len t (Str.ofString "=")
      rw [hP] at this
      exact this.2
    refine ⟨q, _, rfl, SqT.of upd_same, rfl, _, _, rfl, _, _, rfl, _, _, rfl, rfl, ?_⟩
    dsimp only at k
    generalize upd H q (.tup [V.str (u, m, d).fst, V.str (u, m, d).snd.fst, V.str (u, m, d).snd.snd]) = H1 at s1 ⊢
    refine ⟨_, rfl, _, rfl, a, vS tags, rfl, .inl (SqL.of (Same.word s1 ha)), rfl, vS_flat, _, rfl, ?_⟩
    rw [if_pos rfl, inV_word]
    by_cases hu : u ∈ tags
    case neg =>
      rw [decide_eq_false hu]
      exact iteT (k _ _ s1 (.inl ⟨rfl, if_neg fun z => hu z.1⟩))
    rw [decide_eq_true hu]
    refine iteF ?_
    refine ⟨_, rfl, d, rfl, by omega, fun H2 s2 => ⟨_, rfl, ?_⟩⟩
    have s12 := s1.trans s2
    cases hn : numeral d with
    | false =>
      exact iteT (k _ _ s12 (.inl ⟨rfl, if_neg fun z => by rw [hn] at z; cases z.2⟩))
    | true =>
      refine iteF ?_
      refine ⟨_, rfl, .inl ⟨rfl, _, SqL.of (Same.word s12 ha)⟩, _, rfl, ?_⟩
      dsimp only [tNil]
      refine index_word (Same.word s12 ha) hu ?_
      refine ⟨_, rfl, by show 2 ≤ sizeLine; decide, fun p hp => ?_⟩
      exact k _ _ (Same.new s12 hp) (.inr ⟨p, tags.idxOf u, d, rfl, upd_same, if_pos ⟨hu, hn⟩⟩)
end
end Law
end

section
set_option Elab.async false
set_option linter.all false
set_option maxRecDepth 100000
set_option maxHeartbeats 4000000
namespace Law
open PySem PySem.Spec PyProof.Rows L2 LamX QB QM QV
def rdParts (tags : Word) : Int → List Str → Option (List (Nat × Str))
  | _, [] => some []
  | last, p :: ps => match rdWay tags p with
    | none => none
    | some (i, d) => if (i : Int) ≤ last then none else (rdParts tags i ps).map ((i, d) :: ·)
def rdWays (tags : Word) (t : Str) : Option (List (Nat × Str)) := match t.cps.toList with
  | [] => some []
  | c :: _ => if c = 32 then rdParts tags (-1) (Txt.split (cutS t (some 1) none) " ") else none
def rdLine (tags : Word) (t : Str) : Option (Word × List (Nat × Str)) :=
  if (Txt.partition t ":").2.1.length = 0 then none else match rd tags 8 (Txt.partition t ":").1, rdWays tags (Txt.partition t ":").2.2 with
    | some wd, some l => some (wd, l)
    | _, _ => none
open TL in
theorem spl_len {b : List Nat} : ∀ (a : List Nat) (k : Nat) (acc p : List Nat), p ∈ spl b k acc a → p.length ≤ acc.length + a.length
  | [], k, acc, p, hp => by
    rw [spl_nil, List.mem_singleton] at hp
    subst hp
    exact Nat.le_add_right _ _
  | x :: a, 0, acc, p, hp => by
    unfold spl at hp
    rw [List.length_cons]
    by_cases h : pre b (x :: a) = true
    · rw [if_pos h] at hp
      rcases List.mem_cons.mp hp with h2 | h2
      · subst h2
        omega
      · have := spl_len a _ _ p h2
        rw [List.length_nil] at this
        omega
    · rw [if_neg h] at hp
      have := spl_len a _ _ p hp
      rw [List.length_append, List.length_cons, List.length_nil] at this
      omega
  | x :: a, k + 1, acc, p, hp => by
    unfold spl at hp
    rw [List.length_cons]
    have := spl_len a _ _ p hp
    omega
open TL in
theorem split_short (t y : Str) (hy : tl y ≠ []) (hk : y.cps.all (· < 256) = true) : ∀ u ∈ Txt.split t y, u.length ≤ t.length := fun u hu => by
  have key := split_spl t y hy (kind_ok hk)
  have hm : tl u ∈ spl (tl y) 0 [] (tl t) := by
    rw [← key]
    exact List.mem_map.mpr ⟨u, hu, rfl⟩
  have := spl_len _ _ _ _ hm
  rw [List.length_nil, Nat.zero_add] at this
  exact this
def encD (l : List (Nat × Str)) : List (L2.Key × V) := l.map fun x => ((Sum.inl (x.1 : Int) : L2.Key), V.str x.2)
theorem putK_new {l : List (Nat × Str)} {i : Nat} {d : Str} (h : ∀ x ∈ l, x.1 ≠ i) : putK (encD l) (Sum.inl (i : Int)) (.str d) = encD (l ++ [(i, d)]) := by
  unfold putK
  rw [if_neg]
  · unfold encD
    rw [List.map_append]
    rfl
  · intro z
    rw [List.any_eq_true] at z
    obtain ⟨y, hy, e⟩ := z
    obtain ⟨x, hx, rfl⟩ := List.mem_map.mp hy
    have e := of_decide_eq_true e
    injection e with e
    exact h x hx (by omega)
section
variable {P : Program} {w : World} {K : PySem.W.Frag} {mg : Str → Option Value} {base : Heap}
def spReadWays : Sp := fun vs H Q _ => ∃ (a : Addr) (tags : Word) (t : Str), vs = [.ref a, .str t] ∧ WordAt H a tags ∧ t.length ≤ 9000 ∧
  ∀ (v : V) (H' : Hp), Same H H' → ((v = .non ∧ rdWays tags t = none) ∨ ∃ (p : Addr) (l : List (Nat × Str)), v = .ref p ∧ H' p = some (.dK (encD l)) ∧ rdWays tags t = some l) → Q v H'
theorem ok_read_ways (X : TX K mg) : FnOk P w K mg base CX0 3 X.d_read_ways.a X.d_read_ways.fd ["tags", "text"] spReadWays := by
  have nd := sc_read_ways.nd
  refine X.d_read_ways.F.ok sc_read_ways (fun vs H Q E h => ?_) (fun cdv A outer s H vs Q E hr h => ?_)
  · obtain ⟨a, tags, t, rfl, _⟩ := h
    rfl
  · obtain ⟨a, tags, t, rfl, ha, hz, k⟩ := h
    refine ⟨_, (pss_cons (ps_if (pt_not (QN.pt_tru K (pv 1))) (pss_one (ps_ret pe_dnewK)) pss_nil) (pss_cons (ps_if (pt_cmpR op_ne (pe_item_str (pv 1) pe_int (fun _ _ => rfl)) pe_str (nomark _)) (pss_one (ps_ret pe_non)) pss_nil) (pss_cons (ps_set (i := 2) nd rfl (Or.inl rfl) pe_dnewK) (pss_cons (ps_set (i := 3) nd rfl (Or.inl rfl) (pe_un un_neg pe_int)) (pss_cons (ps_for PassesOwn.never rfl (QB.pi_listK K (pe_split (pe_slice sl_str (pv 1) (po_some pe_int) po_none) pe_str)) (pg_name (i := 4) nd rfl (Or.inl rfl)) (pss_cons (ps_set (i := 5) nd rfl (Or.inl rfl) (pe_call (ok_read_way X) (hr.mono (by decide)) rfl X.d_read_way.mg X.d_read_way.F.kp X.d_read_way.b .nil pass0 (pa_cons (pv 0) (pa_cons (pv 4) pa_nil)))) (pss_cons (ps_if (PW.pt (pw_or (pt_cmpR op_isN (pv 5) pe_non (nomark _)) (pw_or1 (pt_cmpR op_le (pe_ix (QB.ix_tupK K) (pv 5) pe_int (fun _ _ => rfl)) (pv 3) (nomark _))))) (pss_one (ps_ret pe_non)) pss_nil) (pss_cons (ps_asg (pv 5) (pg_tup (by rfl) (pgs_cons (pg_name (i := 3) nd rfl (Or.inl rfl)) (pgs_cons (pg_name (i := 6) nd rfl (Or.inl rfl)) (pgs_nil))))) (pss_one (ps_dput (hu_of hr) (pv 2) (pv 3) (pv 6) rfl)))))) (pss_one (ps_ret (pv 2)))))))), ?_⟩
    try dsimp only [Cx.nox, Cx.wish, cxOf]
    unfold rdWays at k
    have e0 : t.cps.size = t.cps.toList.length := rfl
    have e1 : t.cps.size = t.length := rfl
    refine ⟨_, rfl, _, ⟨sz_le (by omega), rfl⟩, ?_⟩
    cases hl : t.cps.toList with
    | nil =>
      rw [hl] at k e0
      have e2 : t.length = 0 := by rw [← e1, e0]; rfl
      rw [e2]
      refine iteT ?_
      exact fun p hp => k _ _ (same_new hp) (.inr ⟨p, [], rfl, upd_same, rfl⟩)
    | cons c r =>
      rw [hl] at k e0
      have k : ∀ (v : V) (H' : Hp), Same H H' → ((v = .non ∧ (if c = 32 then rdParts tags (-1) (Txt.split (cutS t (some 1) none) " ") else none) = none) ∨ ∃ (p : Addr) (l : List (Nat × Str)), v = .ref p ∧ H' p = some (.dK (encD l)) ∧ (if c = 32 then rdParts tags (-1) (Txt.split (cutS t (some 1) none) " ") else none) = some l) → Q v H' := k
      have e2 : t.length = r.length + 1 := by rw [← e1, e0]; rfl
      rw [show ((t.length : Int) != 0) = true by rw [e2, bne_iff_ne]; omega]
      refine iteF ?_
      refine ⟨_, rfl, t, 0, c, rfl, rfl, by decide, by decide, by omega, ?_, rfl, _, rfl, ?_⟩
      · rw [← Array.getElem?_toList, hl]
        rfl
      have e3 : decide (V.str ⟨#[c]⟩ = V.str (Str.ofString " ")) = decide (c = 32) := by
        refine decide_eq_decide.mpr ⟨fun z => ?_, fun z => by rw [z]; rfl⟩
        have z : (⟨#[c]⟩ : Str) = ⟨#[32]⟩ := V.str.inj z
        injection z with z
        have := congrArg Array.toList z
        simpa using this
      rw [e3]
      by_cases hc : c = 32
      case neg =>
        rw [decide_eq_false hc]
        exact iteT (k _ _ (Same.refl H) (.inl ⟨rfl, if_neg hc⟩))
      rw [decide_eq_true hc]
      refine iteF ?_
      rw [if_pos hc] at k
      have hcut : (cutS t (some 1) none).length ≤ t.length := cutS_length t _ _
      generalize hu : cutS t (some 1) none = u at k hcut
      have hs := split_le u " "
      have hpl := split_short u (Str.ofString " ") (by decide +kernel) (by decide +kernel)
      refine fun f hf => ?_
      have s1 := same_new (o := .dK []) hf
      have k1 : (upd H f (.dK [])) f = some (.dK (encD [])) := upd_same
      generalize upd H f (.dK []) = H1 at s1 k1 ⊢
      refine ⟨_, rfl, _, rfl, _, rfl, t, rfl, sz_le (by omega), ?_⟩
      rw [hu]
      refine ⟨⟨_, rfl⟩, u, _, rfl, rfl, by decide, sz_le (by omega), fun q hq => ?_⟩
      have s2 := Same.new s1 (o := .lst ((Txt.split u (Str.ofString " ")).map V.str)) hq
      have kq : WordAt (upd H1 q (.lst ((Txt.split u (Str.ofString " ")).map V.str))) q (Txt.split u (Str.ofString " ")) := upd_same
      have kf : (upd H1 q (.lst ((Txt.split u (Str.ofString " ")).map V.str))) f = some (.dK (encD [])) := (same_new hq) _ _ k1
      have hfN : H f = none := hf
      have hs : (Txt.split u (Str.ofString " ")).length ≤ u.length + 2 := hs
      generalize upd H1 q (.lst ((Txt.split u (Str.ofString " ")).map V.str)) = H2 at s2 kq kf ⊢
      have k : ∀ (v : V) (H' : Hp), Same H H' → ((v = .non ∧ rdParts tags (-1) (Txt.split u (Str.ofString " ")) = none) ∨ ∃ (p : Addr) (l : List (Nat × Str)), v = .ref p ∧ H' p = some (.dK (encD l)) ∧ rdParts tags (-1) (Txt.split u (Str.ofString " ")) = some l) → Q v H' := k
      generalize Txt.split u (Str.ofString " ") = ps at k hpl kq hs
      clear k1 s1 hf
      refine ⟨_, rfl, ⟨_, SqL.of kq⟩, ?_⟩
      refine for_it (walk_listW (K := K) (a := q) (w := ps)) (fun j σ H' => ∃ (v4 v5 v6 : Option V) (acc : List (Nat × Str)) (last : Int), σ = [some (.ref a), some (.str t), some (.ref f), some (.int last), v4, v5, v6] ∧ Same H H' ∧ WordAt H' q ps ∧ H' f = some (.dK (encD acc)) ∧ acc.length ≤ j ∧ (∀ x ∈ acc, (x.1 : Int) ≤ last) ∧
          rdParts tags (-1) ps = (rdParts tags last (ps.drop j)).map (acc ++ ·))
        ⟨_, _, _, [], -1, rfl, s2, kq, kf, Nat.zero_le _, (fun _ h => nomatch h), by rw [List.drop_zero]; cases rdParts tags (-1) ps <;> rfl⟩ (fun j σ H' _ ⟨_, _, _, _, _, _, _, z, _⟩ => z) ?_ ?_
      · rintro j x σ H4 H5 hj ⟨v4, v5, v6, acc, last, rfl, s4, wq, df, hal, hle, hrd⟩ ⟨y, hy, rfl, rfl⟩
        have hyl := hpl y (List.mem_of_getElem? hy)
        have ed : ps.drop j = y :: ps.drop (j + 1) := by
          obtain ⟨hlt, e⟩ := List.getElem?_eq_some_iff.mp hy
          rw [List.drop_eq_getElem_cons hlt, e]
        rw [ed, rdParts] at hrd
        refine ⟨_, rfl, _, rfl, a, tags, y, rfl, Same.word s4 ha, by omega, fun v H6 s6 hv => ?_⟩
        have s46 := s4.trans s6
        rcases hv with ⟨rfl, hn⟩ | ⟨p, i, d, rfl, hp, hsome⟩
        · rw [hn] at hrd
          refine ⟨_, rfl, rfl, _, rfl, ?_⟩
          rw [decide_eq_true rfl]
          refine iteT ?_
          exact k _ _ s46 (.inl ⟨rfl, hrd⟩)
        rw [hsome] at hrd
        dsimp only at hrd
        refine ⟨_, rfl, rfl, _, rfl, ?_⟩
        rw [decide_eq_false (fun z => nomatch z)]
        refine iteF ?_
        refine ⟨_, rfl, p, _, 0, _, rfl, rfl, SqT.of hp, rfl, _, rfl, _, _, rfl, rfl, _, rfl, ?_⟩
        by_cases hil : (i : Int) ≤ last
        · rw [if_pos hil] at hrd
          rw [decide_eq_true hil]
          exact iteT (k _ _ s46 (.inl ⟨rfl, hrd⟩))
        rw [if_neg hil] at hrd
        rw [decide_eq_false hil]
        refine iteF ?_
        refine ⟨_, rfl, p, _, rfl, SqT.of hp, rfl, _, _, rfl, _, _, rfl, rfl, ?_⟩
        have df6 := s6 _ _ df
        refine ⟨_, rfl, _, rfl, _, rfl, f, _, rfl, DPut.k (k := Sum.inl (i : Int)) df6 ?_, ?_⟩
        · unfold encD
          rw [List.length_map]
          exact sz_lt (by omega)
        rw [putK_new (fun x hx e => by have := hle x hx; omega)]
        have s7 := Same.mut (p := f) (o := .dK (encD (acc ++ [(i, d)]))) s46 hfN
        refine ⟨_, _, _, acc ++ [(i, d)], (i : Int), rfl, s7, ?_, upd_same, by rw [List.length_append]; show _ + 1 ≤ _; omega, fun x hx => ?_, ?_⟩
        · have wq6 := s6 _ _ wq
          exact (upd_ne (ne_of wq6 df6 (fun z => nomatch z))).trans wq6
        · rcases List.mem_append.mp hx with hx | hx
          · have := hle x hx
            omega
          · rw [List.mem_singleton.mp hx]
            exact Int.le_refl _
        · rw [hrd, Option.map_map]
          congr 1
          funext l
          show acc ++ (i, d) :: l = acc ++ [(i, d)] ++ l
          rw [List.append_assoc]
          rfl
      · rintro σ H4 ⟨v4, v5, v6, acc, last, rfl, s4, wq, df, hal, hle, hrd⟩
        rw [List.drop_eq_nil_of_le (Nat.le_refl _)] at hrd
        refine ⟨_, rfl, ?_⟩
        exact k _ _ s4 (.inr ⟨f, acc, rfl, df, by rw [hrd]; show some (acc ++ []) = _; rw [List.append_nil]⟩)
end
end Law
end

section
set_option Elab.async false
set_option linter.all false
set_option maxRecDepth 100000
set_option maxHeartbeats 4000000
namespace Law
open PySem PySem.Spec PyProof.Rows L2 LamX QB QM QV
open TL PySem.Builtin.Str in
theorem partition_mid (x y : Str) : (Txt.partition x y).2.1.length ≤ y.length := by
  rcases PyProof.Rows.partition_whole x y with ⟨e, _⟩ | ⟨i, e, hi, _⟩
  · rw [e]
    exact Nat.zero_le _
  · rw [e]
    exact Nat.le_refl _
section
variable {P : Program} {w : World} {K : PySem.W.Frag} {mg : Str → Option Value} {base : Heap}
def spReadLine : Sp := fun vs H Q _ => ∃ (a : Addr) (tags : Word) (t : Str), vs = [.ref a, .str t] ∧ WordAt H a tags ∧ t.length ≤ 9000 ∧
  ∀ (v : V) (H' : Hp), Same H H' → ((v = .non ∧ rdLine tags t = none) ∨ ∃ (p b f : Addr) (wd : Word) (l : List (Nat × Str)), v = .ref p ∧ H b = none ∧ H' p = some (.tup [.ref b, .ref f]) ∧ WordAt H' b wd ∧ H' f = some (.dK (encD l)) ∧ rdLine tags t = some (wd, l)) → Q v H'
theorem ok_read_line (X : TX K mg) : FnOk P w K mg base CX0 4 X.d_read_line.a X.d_read_line.fd ["tags", "line"] spReadLine := by
  have nd := sc_read_line.nd
  refine X.d_read_line.F.ok sc_read_line (fun vs H Q E h => ?_) (fun cdv A outer s H vs Q E hr h => ?_)
  · obtain ⟨a, tags, t, rfl, _⟩ := h
    rfl
  · obtain ⟨a, tags, t, rfl, ha, hz, k⟩ := h
    refine ⟨_, (pss_cons (ps_asg (pe_partition (pv 1) pe_str) (pg_tup (by rfl) (pgs_cons (pg_name (i := 2) nd rfl (Or.inl rfl)) (pgs_cons (pg_name (i := 3) nd rfl (Or.inl rfl)) (pgs_cons (pg_name (i := 4) nd rfl (Or.inl rfl)) (pgs_nil)))))) (pss_cons (ps_set (i := 5) nd rfl (Or.inl rfl) (pe_call (ok_read_word X) (hr.mono (by decide)) rfl X.d_read_word.mg X.d_read_word.F.kp X.d_read_word.b .nil pass0 (pa_cons (pv 0) (pa_cons (pv 2) (pa_cons (pe_gc rfl X.c_LONGEST_WORD) pa_nil))))) (pss_cons (ps_set (i := 6) nd rfl (Or.inl rfl) (pe_call (ok_read_ways X) (hr.mono (by decide)) rfl X.d_read_ways.mg X.d_read_ways.F.kp X.d_read_ways.b .nil pass0 (pa_cons (pv 0) (pa_cons (pv 4) pa_nil)))) (pss_cons (ps_if (PW.pt (pw_or (pt_not (QN.pt_tru K (pv 3))) (pw_or (pt_cmpR op_isN (pv 5) pe_non (nomark _)) (pw_or1 (pt_cmpR op_isN (pv 6) pe_non (nomark _)))))) (pss_one (ps_ret pe_non)) pss_nil) (pss_one (ps_ret (pe_tup (pa_cons (pv 5) (pa_cons (pv 6) pa_nil))))))))), ?_⟩
    try dsimp only [Cx.nox, Cx.wish, cxOf]
    unfold rdLine at k
    refine ⟨_, rfl, ⟨_, rfl⟩, t, _, rfl, rfl, by decide, sz_le (by omega), fun q hq => ?_⟩
    have hpl := partition_len t (Str.ofString ":")
    have hml : (Txt.partition t (Str.ofString ":")).2.1.length ≤ 1 := partition_mid t (Str.ofString ":")
    have s1 := same_new (o := .tup [.str (Txt.partition t ":").1, .str (Txt.partition t ":").2.1, .str (Txt.partition t ":").2.2]) hq
    generalize hP : Txt.partition t (Str.ofString ":") = z at k s1 hpl hml ⊢
    obtain ⟨u, m, d⟩ := z
    refine ⟨q, _, rfl, SqT.of upd_same, rfl, _, _, rfl, _, _, rfl, _, _, rfl, rfl, ?_⟩
    dsimp only at k hpl hml
    generalize upd H q (.tup [V.str (u, m, d).fst, V.str (u, m, d).snd.fst, V.str (u, m, d).snd.snd]) = H1 at s1 ⊢
    refine ⟨_, rfl, _, rfl, a, tags, u, 8, rfl, Same.word s1 ha, by omega, fun v1 H2 s2 h2 => ?_⟩
    have s12 := s1.trans s2
    refine ⟨_, rfl, _, rfl, a, tags, d, rfl, Same.word s12 ha, by omega, fun v2 H3 s3 h3 => ?_⟩
    have s13 := s12.trans s3
    refine ⟨_, rfl, _, ⟨sz_le (by show m.length ≤ 100000; omega), rfl⟩, ?_⟩
    by_cases hm : m.length = 0
    · rw [hm]
      exact iteT (k _ _ s13 (.inl ⟨rfl, if_pos hm⟩))
    rw [show ((m.length : Int) != 0) = true by rw [bne_iff_ne]; omega]
    refine iteF ?_
    have k : ∀ (v : V) (H' : Hp), Same H H' → ((v = .non ∧ (match rd tags 8 u, rdWays tags d with
      | some wd, some l => some (wd, l)
      | _, _ => none) = none) ∨ ∃ (p b f : Addr) (wd : Word) (l : List (Nat × Str)), v = .ref p ∧ H b = none ∧ H' p = some (.tup [.ref b, .ref f]) ∧ WordAt H' b wd ∧ H' f = some (.dK (encD l)) ∧ (match rd tags 8 u, rdWays tags d with
      | some wd, some l => some (wd, l)
      | _, _ => none) = some (wd, l)) → Q v H' := fun v H' s' h => k v H' s' (by rw [if_neg hm]; exact h)
    refine ⟨_, rfl, rfl, _, rfl, ?_⟩
    rcases h2 with ⟨rfl, hn⟩ | ⟨b, wd, rfl, nb, hb, hw⟩
    · rw [hn] at k
      rw [decide_eq_true rfl]
      exact iteT (k _ _ s13 (.inl ⟨rfl, rfl⟩))
    rw [decide_eq_false (fun z => nomatch z)]
    refine iteF ?_
    rw [hw] at k
    refine ⟨_, rfl, rfl, _, rfl, ?_⟩
    rcases h3 with ⟨rfl, hn⟩ | ⟨f, l, rfl, hf, hw2⟩
    · rw [hn] at k
      rw [decide_eq_true rfl]
      exact iteT (k _ _ s13 (.inl ⟨rfl, rfl⟩))
    rw [decide_eq_false (fun z => nomatch z)]
    refine iteF ?_
    rw [hw2] at k
    refine ⟨_, rfl, _, rfl, by show 2 ≤ sizeLine; decide, fun p hp => ?_⟩
    have s4 := same_new (o := .tup [.ref b, .ref f]) hp
    exact k _ _ (s13.trans s4) (.inr ⟨p, b, f, wd, l, rfl, s1.free nb, upd_same, Same.word (s3.trans s4) hb, s4 _ _ hf, rfl⟩)
end
end Law
end

section
set_option Elab.async false
set_option linter.all false
set_option maxRecDepth 100000
set_option maxHeartbeats 4000000
namespace Law
open PySem PySem.Spec PyProof.Rows L2 LamX QB QM QV
/-- the items of a dict that is locked -/
theorem walk_items {d : Addr} {o : Obj} {kvs : List (L2.Key × V)} : Walk (Iti d o kvs) kvs.length (fun H => H d = some (.frz o (.dK kvs))) (fun i H x H' => ∃ T k v, kvs[i]? = some (k, v) ∧ x = .ref T ∧ H T = none ∧ H' = upd H T (.tup [kV k, v])) :=
  ⟨fun _ _ hi q => ⟨q, hi⟩, fun _ q => ⟨q, Nat.le_refl _⟩, fun _ _ _ _ _ _ y => y⟩
/-- the number of a numeral -/
def numOf (d : Str) : Nat := NumText.digitsVal d.cps.toList
theorem numeral_int {d : Str} (h : numeral d = true) (hl : d.length ≤ 4300) : intText? d = some ((numOf d : Nat) : Int) := by
  have e : d = SX.S d.cps.toList := rfl
  unfold numeral at h
  rw [e]
  cases q : d.cps.toList with
  | nil =>
    rw [q] at h
    cases h
  | cons c r =>
    rw [q] at h
    dsimp only at h
    rw [Bool.and_eq_true] at h
    have hz : (c :: r).length ≤ 4300 := by
      rw [← q]
      exact hl
    have := SX.int_S (a := c :: r) ?_ (fun z => nomatch z) hz
    · rw [this]
      rfl
    · rw [List.all_eq_true] at h ⊢
      intro x hx
      have all : ∀ x ∈ digits.cps.toList, (decide (48 ≤ x) && decide (x ≤ 57)) = true := by decide +kernel
      exact all x (of_decide_eq_true (h.1 x hx))
/-- the ways among many standings -/
def among (many : Nat) : Ways → List (Nat × Str) → Option Ways
  | ws, [] => some ws
  | ws, (i, d) :: r => if d.length ≤ 2 ∧ numOf d < many then among many (ws.set i (some (numOf d))) r else none
section
variable {P : Program} {w : World} {K : PySem.W.Frag} {mg : Str → Option Value} {base : Heap}
theorem pt_rep {α : Type} (n : Nat) (x : α) : (List.replicate n [x]).flatten = List.replicate n x := by
  induction n with
  | zero => rfl
  | succ n ih =>
    rw [List.replicate_succ, List.flatten_cons, ih]
    rfl
theorem pt_nones (n : Nat) : vWs (List.replicate n none) = List.replicate n V.non := by
  unfold vWs
  rw [List.map_replicate]
  rfl
def spNoWays : Sp := fun vs H Q _ => ∃ (a : Addr) (tags : Word), vs = [.ref a] ∧ WordAt H a tags ∧ tags.length ≤ 100 ∧ ∀ (p : Addr) (H' : Hp), Same H H' → H p = none → WaysAt H' p (List.replicate tags.length none) → Q (.ref p) H'
theorem ok_no_ways (X : TX K mg) : FnOk P w K mg base CX0 1 X.d_no_ways.a X.d_no_ways.fd ["tags"] spNoWays := by
  have nd := sc_no_ways.nd
  refine X.d_no_ways.F.ok sc_no_ways (fun vs H Q E h => ?_) (fun cdv A outer s H vs Q E hr h => ?_)
  · obtain ⟨a, tags, rfl, _⟩ := h
    rfl
  · obtain ⟨a, tags, rfl, ha, hz, k⟩ := h
    refine ⟨_, (pss_one (ps_ret (pe_op op_rep (pe_lst (pa_cons pe_non pa_nil)) (pe_callB (QB.call_lenK K) (by rfl) X.n_len PySem.boot_len (pa_cons (pv 0) pa_nil))))), ?_⟩
    try dsimp only [Cx.nox, Cx.wish, cxOf]
    refine ⟨by show 1 ≤ sizeLine; decide, fun q hq => ?_⟩
    have s1 := same_new (o := .lst [V.non]) hq
    have h1 : (upd H q (.lst [V.non])) q = some (.lst [V.non]) := upd_same
    generalize upd H q (.lst [V.non]) = H1 at s1 h1 ⊢
    refine ⟨_, rfl, _, _, rfl, .inl (SqL.of (Same.word s1 ha)), q, _, _, rfl, rfl, h1, by rw [vS_len]; omega, by rw [vS_len]; omega, by rw [vS_len]; show 1 * _ ≤ sizeLine; exact sz_le (by omega), fun p hp => ?_⟩
    refine k p _ (Same.new s1 hp) (s1.free hp) ?_
    unfold WaysAt
    rw [upd_same, vS_len, pt_nones, pt_rep]
    rfl
def spAmong : Sp := fun vs H Q _ => ∃ (a f : Addr) (tags : Word) (l : List (Nat × Str)) (many : Nat), vs = [.ref a, .ref f, .int (many : Int)] ∧ WordAt H a tags ∧ tags.length ≤ 6 ∧ H f = some (.dK (encD l)) ∧ (∀ x ∈ l, numeral x.2 = true ∧ x.1 < tags.length ∧ x.2.length ≤ 9000) ∧
  ∀ (v : V) (H' : Hp), Same H H' → ((v = .non ∧ among many (List.replicate tags.length none) l = none) ∨ ∃ (p : Addr) (ws : Ways), v = .ref p ∧ H p = none ∧ WaysAt H' p ws ∧ among many (List.replicate tags.length none) l = some ws) → Q v H'
theorem ok_ways_among (X : TX K mg) : FnOk P w K mg base CX0 2 X.d_ways_among.a X.d_ways_among.fd ["tags", "found", "many"] spAmong := by
  have nd := sc_ways_among.nd
  refine X.d_ways_among.F.ok sc_ways_among (fun vs H Q E h => ?_) (fun cdv A outer s H vs Q E hr h => ?_)
  · obtain ⟨a, f, tags, l, many, rfl, _⟩ := h
    rfl
  · obtain ⟨a, f, tags, l, many, rfl, ha, htl, hf, hall, k⟩ := h
    refine ⟨_, (pss_cons (ps_set (i := 3) nd rfl (Or.inl rfl) (pe_call (ok_no_ways X) (hr.mono (by decide)) rfl X.d_no_ways.mg X.d_no_ways.F.kp X.d_no_ways.b .nil pass0 (pa_cons (pv 0) pa_nil))) (pss_cons (ps_lock (ps_for PassesOwn.never rfl (pi_items (pv 1)) (pg_tup (by rfl) (pgs_cons (pg_name (i := 4) nd rfl (Or.inl rfl)) (pgs_cons (pg_name (i := 5) nd rfl (Or.inl rfl)) (pgs_nil)))) (pss_cons (ps_if (PW.pt (pw_or (pt_cmpR op_gt (pe_callB call_len_str (by rfl) X.n_len PySem.boot_len (pa_cons (pv 5) pa_nil)) (pe_gc rfl X.c_MOST_DIGITS) (nomark _)) (pw_or1 (pt_cmpR op_ge (pe_callTy call_int_str (by rfl) X.n_int QB.bo_int (pa_cons (pv 5) pa_nil)) (pv 2) (nomark _))))) (pss_one (ps_ret pe_non)) pss_nil) (pss_one (ps_asg (pe_callTy call_int_str (by rfl) X.n_int QB.bo_int (pa_cons (pv 5) pa_nil)) (pg_sub (pv 3) (pv 4) set_list)))))) (pss_one (ps_ret (pv 3))))), ?_⟩
    try dsimp only [Cx.nox, Cx.wish, cxOf]
    refine ⟨_, rfl, a, tags, rfl, ha, by omega, fun p H1 s1 np hp => ?_⟩
    have hf1 := s1 _ _ hf
    have pf : p ≠ f := (ne_of_none hf np).symm
    refine ⟨f, .dK (encD l), hf1, True.intro, fun od => ?_⟩
    refine ⟨_, rfl, f, od, _, rfl, upd_same, ?_⟩
    have key : ∀ {H' : Hp}, (∀ c o, c ≠ f → c ≠ p → H1 c = some o → H' c = some o) → Same H (upd H' f (.dK (encD l))) := fun {H'} h c o hc => by
      by_cases cf : c = f
      · subst cf
        rw [hf] at hc
        cases hc
        exact upd_same
      · rw [upd_ne cf]
        refine h c o cf (fun z => ?_) (s1 _ _ hc)
        rw [z, np] at hc
        cases hc
    refine for_it (walk_items (d := f) (o := od) (kvs := encD l)) (fun j σ H' => ∃ (v4 v5 : Option V) (ws : Ways), σ = [some (.ref a), some (.ref f), some (.int (many : Int)), some (.ref p), v4, v5] ∧ H' f = some (.frz od (.dK (encD l))) ∧ H' p = some (.lst (vWs ws)) ∧ ws.length = tags.length ∧ (∀ c o, c ≠ f → c ≠ p → H1 c = some o → H' c = some o) ∧
        among many (List.replicate tags.length none) l = among many ws (l.drop j))
      ⟨_, _, _, rfl, upd_same, (upd_ne pf).trans hp, List.length_replicate .., fun c o h1 _ h => (upd_ne h1).trans h, rfl⟩ (fun j σ H' _ ⟨_, _, _, _, z, _⟩ => z) ?_ ?_
    · rintro j x σ H4 H5 hj ⟨v4, v5, ws, rfl, ff, pp, hwl, hk4, hrd⟩ ⟨T, kk, v, hx, rfl, nT, rfl⟩
      obtain ⟨⟨i, d⟩, hy, e⟩ : ∃ y, l[j]? = some y ∧ ((Sum.inl (y.1 : Int) : L2.Key), V.str y.2) = (kk, v) := by
        unfold encD at hx
        rw [List.getElem?_map] at hx
        cases q : l[j]? with
        | none =>
          rw [q] at hx
          cases hx
        | some y =>
          rw [q] at hx
          exact ⟨y, rfl, Option.some.inj hx⟩
      cases e
      obtain ⟨hn, hi, hdl⟩ := hall _ (List.mem_of_getElem? hy)
      have hdl : d.length ≤ 9000 := hdl
      have hn : numeral d = true := hn
      have hi : i < tags.length := hi
      have ed : l.drop j = (i, d) :: l.drop (j + 1) := by
        obtain ⟨hlt, e⟩ := List.getElem?_eq_some_iff.mp hy
        rw [List.drop_eq_getElem_cons hlt, e]
      rw [ed, among] at hrd
      have Tf : f ≠ T := ne_of_none ff nT
      have Tp : p ≠ T := ne_of_none pp nT
      have ff5 := (upd_ne (o := .tup [kV (Sum.inl (i : Int)), V.str d]) Tf).trans ff
      have pp5 := (upd_ne (o := .tup [kV (Sum.inl (i : Int)), V.str d]) Tp).trans pp
      have hk5 : ∀ c o, c ≠ f → c ≠ p → H1 c = some o → (upd H4 T (.tup [kV (Sum.inl (i : Int)), V.str d])) c = some o := fun c o h1 h2 h => by
        have h4 := hk4 c o h1 h2 h
        exact (upd_ne (ne_of_none h4 nT)).trans h4
      have tT : (upd H4 T (.tup [kV (Sum.inl (i : Int)), V.str d])) T = some (.tup [.int (i : Int), V.str d]) := upd_same
      generalize upd H4 T (.tup [kV (Sum.inl (i : Int)), V.str d]) = H5 at ff5 pp5 hk5 tT ⊢
      refine ⟨T, _, rfl, SqT.of tT, rfl, _, _, rfl, _, _, rfl, rfl, ?_⟩
      have bad : ¬ (d.length ≤ 2 ∧ numOf d < many) → Q .non (upd H5 f (.dK (encD l))) := fun hn2 => by
        rw [if_neg hn2] at hrd
        exact k _ _ (key hk5) (.inl ⟨rfl, hrd⟩)
      refine ⟨_, rfl, d, rfl, sz_le (by omega), _, _, rfl, rfl, _, rfl, ?_⟩
      by_cases h2 : d.length ≤ 2
      case neg =>
        rw [decide_eq_true (by omega)]
        refine iteT ?_
        exact ⟨ff5, bad fun z => h2 z.1⟩
      rw [decide_eq_false (by omega)]
      refine iteF ?_
      refine ⟨_, rfl, d, _, rfl, numeral_int hn (by omega), by omega, _, rfl, _, _, rfl, rfl, _, rfl, ?_⟩
      by_cases hm : numOf d < many
      case neg =>
        rw [decide_eq_true (by omega)]
        refine iteT ?_
        exact ⟨ff5, bad fun z => hm z.2⟩
      rw [decide_eq_false (by omega)]
      refine iteF ?_
      rw [if_pos ⟨h2, hm⟩] at hrd
      refine ⟨_, rfl, d, _, rfl, numeral_int hn (by omega), by omega, ?_⟩
      refine ⟨_, rfl, _, rfl, p, _, _, i, rfl, rfl, pp5, ixN_of (by rw [vWs_len, hwl]; exact hi), ?_⟩
      refine ⟨_, _, ws.set i (some (numOf d)), rfl, (upd_ne pf.symm).trans ff5, ?_, by rw [List.length_set]; exact hwl, fun c o h1 h2 h => (upd_ne h2).trans (hk5 c o h1 h2 h), hrd⟩
      rw [upd_same]
      unfold vWs
      rw [List.map_set]
      rfl
    · rintro σ H4 ⟨v4, v5, ws, rfl, ff, pp, hwl, hk4, hrd⟩
      rw [show (encD l).length = l.length by unfold encD; rw [List.length_map], List.drop_eq_nil_of_le (Nat.le_refl _)] at hrd
      refine ⟨ff, ?_⟩
      refine ⟨_, rfl, ?_⟩
      exact k _ _ (key hk4) (.inr ⟨p, ws, rfl, np, (upd_ne pf).trans pp, hrd⟩)
end
end Law
end

section
set_option Elab.async false
set_option linter.all false
set_option maxRecDepth 100000
set_option maxHeartbeats 4000000
namespace Law
open PySem PySem.Spec PyProof.Rows L2 LamX QB QM QV
def numS (n : Nat) : Str := Str.ofString (toString (n : Int))
def wayT (t : Str) (n : Nat) : Str := Str.empty ++ Str.ofString " " ++ t ++ Str.ofString "=" ++ numS n
def toldL (tags : Word) (ws : Ways) : List Str := ((tags.zip ws).filter fun z => z.2.isSome).map fun z => wayT z.1 (z.2.getD 0)
def lineT (tags : Word) (s : Std) : Str := writ s.1 ++ Str.ofString ":" ++ Txt.join (Str.ofString "") (toldL tags s.2)
def eaterT (tags : Word) (F : Form) : Str := Txt.join (Str.ofString "\n") (F.map (lineT tags))
structure FormT (tags : Word) (F : Form) : Prop where
  len : F.length ≤ 30
  words : ∀ s ∈ F, s.1.length ≤ 8 ∧ ∀ t ∈ s.1, t ∈ tags
  ways : ∀ s ∈ F, s.2.length = tags.length ∧ ∀ m, some m ∈ s.2 → m < 100
theorem lenZ_add (a b : Str) : (a ++ b).length = a.length + b.length := by
  show (a.cps ++ b.cps).size = _
  rw [Array.size_append]
  rfl
theorem numS_len {n : Nat} (h : n < 100) : (numS n).length ≤ 2 := by
  have all : ∀ i : Fin 100, (numS i.val).length ≤ 2 := by decide +kernel
  exact all ⟨n, h⟩
theorem wayT_len {t : Str} {n : Nat} (h : n < 100) (ht : t.length ≤ 8) : (wayT t n).length ≤ 12 := by
  unfold wayT
  rw [lenZ_add, lenZ_add, lenZ_add, lenZ_add]
  have := numS_len h
  show 0 + 1 + t.length + 1 + _ ≤ 12
  omega
open TL in
theorem joinL_len (S : List Nat) : ∀ ps : List (List Nat), (joinL S ps).length ≤ (ps.map List.length).sum + ps.length * S.length
  | [] => Nat.zero_le _
  | [a] => by
    rw [List.map_cons, List.sum_cons]
    show a.length ≤ _
    omega
  | a :: b :: r => by
    have ih := joinL_len S (b :: r)
    have e : joinL S (a :: b :: r) = a ++ (S ++ joinL S (b :: r)) := rfl
    rw [e, List.length_append, List.length_append, List.map_cons, List.sum_cons, List.length_cons (a := a), Nat.succ_mul]
    omega
open TL in
theorem join_len (y : Str) (ps : List Str) : (Txt.join y ps).length ≤ (ps.map (·.length)).sum + ps.length * y.length := by
  have h : (Txt.join y ps).length = (tl (Txt.join y ps)).length := rfl
  rw [h, join_eq, tl_join]
  have := joinL_len (tl y) (ps.map tl)
  rw [List.map_map, List.length_map] at this
  exact this
theorem sum_le {α : Type} (f : α → Nat) (b : Nat) : ∀ {l : List α}, (∀ x ∈ l, f x ≤ b) → (l.map f).sum ≤ l.length * b
  | [], _ => Nat.zero_le _
  | x :: l, h => by
    rw [List.map_cons, List.sum_cons, List.length_cons, Nat.succ_mul]
    have a := h x List.mem_cons_self
    have b := sum_le f b fun y hy => h y (List.mem_cons_of_mem _ hy)
    omega
theorem toldL_len {tags : Word} {ws : Ways} (to : TagsOk tags) (h : ∀ m, some m ∈ ws → m < 100) : (toldL tags ws).length ≤ 6 ∧ ∀ x ∈ toldL tags ws, x.length ≤ 12 := by
  refine ⟨?_, fun x hx => ?_⟩
  · unfold toldL
    rw [List.length_map]
    have h1 := List.length_filter_le (fun z : Str × Option Nat => z.2.isSome) (tags.zip ws)
    rw [List.length_zip] at h1
    have := to.len
    omega
  · unfold toldL at hx
    obtain ⟨⟨t, w⟩, hz, rfl⟩ := List.mem_map.mp hx
    rw [List.mem_filter] at hz
    obtain ⟨hz, hs⟩ := hz
    have hm := List.of_mem_zip hz
    cases w with
    | none => cases hs
    | some n => exact wayT_len (h n hm.2) (to.names t hm.1).len
theorem writ_len {wd : Word} (h : wd.length ≤ 8) (hn : ∀ t ∈ wd, t.length ≤ 8) : (writ wd).length ≤ 100 := by
  unfold writ
  by_cases e : wd = []
  · rw [if_pos e]
    decide
  · rw [if_neg e]
    have a := join_len (Str.ofString " ") wd
    have b := sum_le (fun t : Str => t.length) 8 hn
    have c : (Str.ofString " ").length = 1 := rfl
    have a : (Txt.join (Str.ofString " ") wd).length ≤ _ := a
    show (Txt.join (Str.ofString " ") wd).length ≤ 100
    rw [c] at a
    have b : (wd.map (·.length)).sum ≤ wd.length * 8 := b
    omega
theorem line_len {tags : Word} {s : Std} (to : TagsOk tags) (h1 : s.1.length ≤ 8) (h2 : ∀ t ∈ s.1, t ∈ tags) (h : ∀ m, some m ∈ s.2 → m < 100) : (lineT tags s).length ≤ 200 := by
  unfold lineT
  rw [lenZ_add, lenZ_add]
  have a := writ_len h1 fun t ht => (to.names t (h2 t ht)).len
  have b := join_len (Str.ofString "") (toldL tags s.2)
  obtain ⟨c1, c2⟩ := toldL_len to h
  have c := sum_le (fun t : Str => t.length) 12 c2
  have c : ((toldL tags s.2).map (·.length)).sum ≤ (toldL tags s.2).length * 12 := c
  have d : (Str.ofString "").length = 0 := rfl
  have e : (Str.ofString ":").length = 1 := rfl
  rw [d] at b
  rw [e]
  omega
theorem newF_but {H0 H H' : Hp} {p D : Addr} {L : List Tri} {G : Form} {xs : List V} (n : NewF H0 H p L G) (hD : H0 D = some (.lst xs)) (k : ∀ c o, c ≠ D → H c = some o → H' c = some o) : NewF H0 H' p L G := by
  refine ⟨k _ _ (n.new.ne hD).symm n.lst, ⟨paired_mem n.all.at_ fun x s hx q => ?_, n.all.new, n.all.nd⟩, n.new, n.out⟩
  obtain ⟨f1, f2, f3⟩ := n.all.new x hx
  exact ⟨k _ _ (f1.ne hD).symm q.1, k _ _ (f2.ne hD).symm q.2.1, k _ _ (f3.ne hD).symm q.2.2⟩
theorem sz100 {n : Nat} (h : n ≤ 1000) : n ≤ sizeLine := sz_le (by omega)
section
variable {P : Program} {w : World} {K : PySem.W.Frag} {mg : Str → Option Value} {base : Heap}
def spEaterText (C : Addr) : Sp := fun vs H Q _ => ∃ (e : Addr) (tags : Word) (G : Form), vs = [.ref e] ∧ EatAt C H e tags G ∧ TagsOk tags ∧ FormT tags G ∧ ∀ H', Same H H' → Q (.str (eaterT tags G)) H'
theorem ok_eater_text (X : TX K mg) : FnOk P w K mg base CX0 3 X.d_eater_text.a X.d_eater_text.fd ["eater"] (spEaterText X.c_Eater) := by
  have nd := sc_eater_text.nd
  refine X.d_eater_text.F.ok sc_eater_text (fun vs H Q E h => ?_) (fun cdv A outer s0 H vs Q E hr h => ?_)
  · obtain ⟨e, tags, G, rfl, _⟩ := h
    rfl
  · obtain ⟨e, tags, G, rfl, he, to, ft, k⟩ := h
    refine ⟨_, (pss_cons (ps_set (i := 1) nd rfl (Or.inl rfl) (pe_lst pa_nil)) (pss_cons (ps_for PassesOwn.never rfl (QB.pi_listK K (pe_meth0 (pv 0) X.cl_Eater X.h_Eater_standings (ok_Eater_standings X) (hr.mono (by decide)) X.d_Eater_standings.b .nil pass0)) (pg_tup (by rfl) (pgs_cons (pg_name (i := 2) nd rfl (Or.inl rfl)) (pgs_cons (pg_name (i := 3) nd rfl (Or.inl rfl)) (pgs_nil)))) (pss_cons (ps_setLc (i := 4) (own := [("tag", 5), ("way", 6)]) (g := gTup K 2 (gCons (gName 5) (gCons (gName 6) (gNil)))) rfl nd rfl rfl (sw_true rfl rfl rfl (by decide +kernel)) (QB.pi_zipK K (by rfl) X.n_zip (pa_cons (pe_meth0 (pv 0) X.cl_Eater X.h_Eater_tags (ok_Eater_tags X) (hr.mono (by decide)) X.d_Eater_tags.b .nil pass0) (pa_cons (pv 3) pa_nil))) (blkOk_by (N := ["eater", "lines", "word", "ways", "told", "tag", "way"]) (sc := defScope s_eater_text) (by decide +kernel)) (fun _ _ _ _ _ => pg_tup (by rfl) (pgs_cons (pg_name (i := 5) nd rfl (Or.inl rfl)) (pgs_cons (pg_name (i := 6) nd rfl (Or.inl rfl)) (pgs_nil)))) (fun _ _ _ _ _ => pts_one (pt_cmpR op_notN (pv 6) pe_non (nomark _))) (fun _ _ _ _ _ => (pe_joined (.cons pe_str (.cons (pe_fmt (pv 5)) (.cons pe_str (.cons (pe_fmt (pv 6)) .nil))))))) (pss_one (ps_expr (QB.pe_bmK K PySem.F.plainAttrs_list PySem.F.slot_list_append PySem.F.type_list_append mt_append (pv 1) (pa_cons (pe_op op_add_str (pe_op op_add_str (pe_call (ok_written X) (hr.mono (by decide)) rfl X.d_written.mg X.d_written.F.kp X.d_written.b .nil pass0 (pa_cons (pv 2) pa_nil)) pe_str) (pe_join pe_str (pv 4))) pa_nil)))))) (pss_one (ps_ret (pe_join pe_str (pv 1)))))), ?_⟩
    try dsimp only [Cx.nox, Cx.wish, cxOf]
    have hG := ft.len
    have htl := to.len
    refine ⟨by show 0 ≤ sizeLine; decide, fun D hD => ?_⟩
    have s1 := same_new (o := .lst ([] : List V)) hD
    have he1 := he.same s1
    have hD1 : (upd H D (.lst [])) D = some (.lst (([] : List Str).map V.str)) := upd_same
    generalize upd H D (.lst []) = H1 at s1 he1 hD1 ⊢
    refine ⟨_, rfl, ?_⟩
    obtain ⟨dx, ea, eb, i1, i2, i3⟩ := id he1
    refine ⟨e, dx, _, rfl, i1, rfl, ?_⟩
    refine ⟨e, tags, G, rfl, he1, by omega, fun p L H2 s2 n2 => ?_⟩
    refine ⟨p, rfl, ⟨_, SqL.of n2.lst⟩, ?_⟩
    have hD2 := s2 _ _ hD1
    have s12 := s1.trans s2
    have hDN : H D = none := hD
    refine for_it (walk_listF (K := K) (p := p) (F := G)) (fun i σ H' => ∃ v2 v3 v4 v5 v6, σ = [some (.ref e), some (.ref D), v2, v3, v4, v5, v6] ∧ Same H H' ∧ (∀ c o, c ≠ D → H2 c = some o → H' c = some o) ∧ H' D = some (.lst (((G.take i).map (lineT tags)).map V.str)))
      ⟨_, _, _, _, _, rfl, s12, (fun _ _ _ h => h), hD2⟩ (fun i σ H' _ ⟨_, _, _, _, _, _, _, z, _⟩ => (newF_but n2 hD1 z).form) ?_ ?_
    · rintro i x σ H3 H4 hi ⟨v2, v3, v4, v5, v6, rfl, s3, k3, d3⟩ ⟨s, t, a, b, hs, rfl, rfl, ht, hw, hy⟩
      have hm := List.mem_of_getElem? hs
      obtain ⟨w8, wsub⟩ := ft.words s hm
      obtain ⟨yl, y100⟩ := ft.ways s hm
      refine ⟨t, _, rfl, SqT.of ht, rfl, _, _, rfl, _, _, rfl, rfl, ?_⟩
      have he4 := he.same s3
      obtain ⟨dx4, ea4, eb4, j1, j2, j3⟩ := id he4
      refine ⟨_, rfl, e, dx4, _, rfl, j1, rfl, ?_⟩
      refine ⟨e, tags, G, rfl, he4, fun q hq => ?_⟩
      have s4 := same_new (o := .lst (vS tags)) hq
      have kq : WordAt (upd H4 q (.lst (vS tags))) q tags := upd_same
      have hw5 := Same.word s4 hw
      have hy5 := Same.ways s4 hy
      have d5 := s4 _ _ d3
      have k5 : ∀ c o, c ≠ D → H2 c = some o → (upd H4 q (.lst (vS tags))) c = some o := fun c o n h => s4 _ _ (k3 c o n h)
      have s5 := s3.trans s4
      generalize upd H4 q (.lst (vS tags)) = H5 at s5 kq hw5 hy5 d5 k5 ⊢
      clear s4 hq
      refine ⟨_, rfl, q, b, _, _, rfl, SqL.of kq, SqL.of hy5, fun D2 hD2' => ?_⟩
      have hzl : (tags.zip s.2).length = tags.length := by rw [List.length_zip, yl, Nat.min_self]
      refine lc_filter (te := fun σ H Q => tJs [tC (.str (Str.ofString " ")), tFmt (tVar 5), tC (.str (Str.ofString "=")), tFmt (tVar 6)] Str.empty σ H fun out H1 => Q (.str out) H1) (walk_zip (K := K) (a := q) (b := b) (xs := vS tags) (ys := vWs s.2) (n := tags.length) (by rw [vS_len, vWs_len, yl, Nat.min_self])) hD2' (by omega) (fun H' s' => ⟨SqL.of (Same.word s' kq), SqL.of (Same.ways s' hy5)⟩)
        (fun i => (((tags.zip s.2)[i]?).map fun z => V.str (wayT z.1 (z.2.getD 0))).getD .non) (fun i => (((tags.zip s.2)[i]?).map fun z => z.2.isSome).getD false) ?_ ?_
      · rintro i x H6 H7 kk N hi s6 ⟨tp, x1, x2, rfl, ntp, rfl, e1, e2⟩ hk hN
        have g1 : tags[i]? = some tags[i] := List.getElem?_eq_getElem hi
        have g2 : s.2[i]? = some (s.2[i]'(by omega)) := List.getElem?_eq_getElem (by omega)
        have gz : (tags.zip s.2)[i]? = some (tags[i], s.2[i]'(by omega)) := by
          rw [List.getElem?_zip_eq_some]
          exact ⟨g1, g2⟩
        have e1 : (vS tags)[i]? = some x1 := e1
        have e2 : (vWs s.2)[i]? = some x2 := e2
        rw [vS_get g1] at e1
        rw [vWs_get g2] at e2
        cases e1
        cases e2
        rw [gz] at hk hN
        have mt := List.getElem_mem hi
        have mw := List.mem_of_getElem? g2
        have tl8 := (to.names _ mt).len
        generalize tags[i] = tg at hk hN mt tl8
        generalize s.2[i]'(by omega) = wy at hk hN mw
        have s7 := Same.new (Same.refl H6) (o := .tup [.str tg, vW wy]) ntp
        refine ⟨tp, _, rfl, SqT.of upd_same, rfl, _, _, rfl, _, _, rfl, rfl, rfl, ?_⟩
        refine ⟨_, rfl, rfl, _, rfl, ?_⟩
        rw [vW_is]
        cases wy with
        | none => exact iteF (hN rfl _ s7)
        | some m =>
          have hn := numS_len (y100 m mw)
          have hn' : (Str.ofString (toString (m : Int))).length ≤ 2 := hn
          refine iteT ?_
          refine ⟨_, rfl, by decide +kernel, _, rfl, .inl ⟨_, rfl, sz100 (by omega), _, rfl, ?_, _, rfl, ?_, _, rfl, .inr ⟨_, rfl, ?_, _, rfl, ?_, hk rfl _ s7⟩⟩⟩
          · rw [lenZ_add, lenZ_add]
            exact sz100 (by show 0 + 1 + _ ≤ 1000; omega)
          · rw [lenZ_add, lenZ_add, lenZ_add]
            exact sz100 (by show 0 + 1 + _ + 1 ≤ 1000; omega)
          · have := y100 m mw
            have all : ∀ i : Fin 100, ((i.val : Nat) : Int).natAbs.log2 < 1920 := by decide +kernel
            exact all ⟨m, this⟩
          · rw [lenZ_add, lenZ_add, lenZ_add, lenZ_add]
            exact sz100 (by show 0 + 1 + _ + 1 + _ ≤ 1000; omega)
      · intro H6 s6 e6
        have w6 : H6 D2 = some (.lst ((toldL tags s.2).map V.str)) := by
          unfold toldL
          rw [e6, List.map_map, ← hzl]
          rw [filter_range (fun z : Str × Option Nat => z.2.isSome) (fun z => V.str (wayT z.1 (z.2.getD 0))) _ _ (tags.zip s.2) (fun j z hz => by rw [hz]; exact ⟨rfl, rfl⟩)]
          rfl
        have d6 := s6 _ _ d5
        have s56 := s5.trans s6
        obtain ⟨c1, c2⟩ := toldL_len to y100
        have wl := writ_len w8 fun t ht => (to.names t (wsub t ht)).len
        have jl := join_len (Str.ofString "") (toldL tags s.2)
        have cs : ((toldL tags s.2).map (·.length)).sum ≤ (toldL tags s.2).length * 12 := sum_le (fun t : Str => t.length) 12 c2
        have z0 : (Str.ofString "").length = 0 := rfl
        rw [z0] at jl
        have shw : ShortW s.1 := by
          unfold ShortW
          have : (s.1.map (·.length)).sum ≤ s.1.length * 8 := sum_le (fun t : Str => t.length) 8 fun t ht => (to.names t (wsub t ht)).len
          omega
        refine ⟨_, rfl, .inl ⟨rfl, _, SqL.of d6⟩, ?_⟩
        refine ⟨_, rfl, a, s.1, rfl, Same.word s6 hw5, shw, ?_⟩
        refine ⟨_, _, rfl, rfl, sz100 (by show _ + 1 ≤ 1000; omega), ?_⟩
        refine ⟨⟨_, rfl⟩, _, rfl, _, D2, toldL tags s.2, rfl, rfl, .inl (SqL.of w6), by rw [z0]; omega, ?_⟩
        refine ⟨_, _, rfl, rfl, sz100 (by rw [lenZ_add]; show _ + 1 + _ ≤ 1000; omega), ?_⟩
        dsimp only [tNil]
        refine ⟨D, _, _, rfl, rfl, d6, by rw [List.length_map, List.length_map, List.length_take]; exact sz_lt (by omega), ?_⟩
        refine ⟨_, _, _, _, _, rfl, Same.mut s56 hDN, fun c o n h => (upd_ne n).trans (s6 _ _ (k5 c o n h)), ?_⟩
        rw [upd_same]
        have et : G.take (i + 1) = G.take i ++ [s] := by rw [List.take_succ, hs]; rfl
        rw [et, List.map_append, List.map_append]
        rfl
    · rintro σ H3 ⟨v2, v3, v4, v5, v6, rfl, s3, k3, d3⟩
      rw [List.take_length] at d3
      refine ⟨⟨_, rfl⟩, _, rfl, _, D, G.map (lineT tags), rfl, rfl, .inl (SqL.of d3), ?_, k _ s3⟩
      have b1 : ((G.map (lineT tags)).map (·.length)).sum ≤ (G.map (lineT tags)).length * 200 := sum_le (fun t : Str => t.length) 200 fun t ht => by
        obtain ⟨s, hs, rfl⟩ := List.mem_map.mp ht
        exact line_len to (ft.words s hs).1 (ft.words s hs).2 (ft.ways s hs).2
      rw [List.length_map] at b1 ⊢
      show _ + _ * 1 ≤ 16777216
      omega
end
end Law
end

section
set_option Elab.async false
set_option linter.all false
set_option maxRecDepth 100000
set_option maxHeartbeats 4000000
namespace Law
open PySem PySem.Spec PyProof.Rows L2 LamX QB QM QV
abbrev RowT := Word × List (Nat × Str)
/-- the lines' rows, or the first line that tells none -/
def rowsFrom (tags : Word) : Nat → List Str → Nat ⊕ List RowT
  | _, [] => .inr []
  | k, x :: r => match rdLine tags x with
    | none => .inl k
    | some y => match rowsFrom tags (k + 1) r with
      | .inl j => .inl j
      | .inr ys => .inr (y :: ys)
def pre1 (acc : List RowT) : Nat ⊕ List RowT → Nat ⊕ List RowT
  | .inl j => .inl j
  | .inr ys => .inr (acc ++ ys)
def formR (many nt : Nat) : List RowT → Option Form
  | [] => some []
  | (wd, l) :: r => match among many (List.replicate nt none) l, formR many nt r with
    | some ws, some F => some ((wd, ws) :: F)
    | _, _ => none
/-- what comes of a text to be read -/
inductive Rd
  | line (iv : V)
  | eater (F : Form)
def parse (tags : Word) (t : Str) : Rd := match rowsFrom tags 0 (Txt.split t (Str.ofString "\n")) with
  | .inl k => .line (.int (k : Int))
  | .inr rs => if rs.length ≤ 30 then match formR rs.length tags.length rs with
      | some F => .eater F
      | none => .line (.int (rs.length : Int))
    else .line (.int (rs.length : Int))
def parseD (tags : Word) : PyData → Rd
  | .str t => parse tags t
  | _ => .line .non
structure RowOk (tags : Word) (y : RowT) : Prop where
  len : y.1.length ≤ 8
  sub : ∀ t ∈ y.1, t ∈ tags
  ways : ∀ x ∈ y.2, numeral x.2 = true ∧ x.1 < tags.length ∧ x.2.length ≤ 9000
theorem parts_ok {tags : Word} : ∀ {ps : List Str} {last : Int} {l : List (Nat × Str)}, (∀ p ∈ ps, p.length ≤ 9000) → rdParts tags last ps = some l → ∀ x ∈ l, numeral x.2 = true ∧ x.1 < tags.length ∧ x.2.length ≤ 9000
  | [], _, l, _, h => by
    cases h
    exact fun _ h => nomatch h
  | p :: ps, last, l, hp, h => by
    rw [rdParts] at h
    cases q : rdWay tags p with
    | none =>
      rw [q] at h
      cases h
    | some y =>
      obtain ⟨i, d⟩ := y
      rw [q] at h
      dsimp only at h
      by_cases hl : (i : Int) ≤ last
      · rw [if_pos hl] at h
        cases h
      rw [if_neg hl] at h
      cases q2 : rdParts tags i ps with
      | none =>
        rw [q2] at h
        cases h
      | some r =>
        rw [q2] at h
        cases h
        intro x hx
        rcases List.mem_cons.mp hx with rfl | hx
        · unfold rdWay at q
          by_cases hc : (Txt.partition p "=").1 ∈ tags ∧ numeral (Txt.partition p "=").2.2 = true
          · rw [if_pos hc] at q
            cases q
            exact ⟨hc.2, List.idxOf_lt_length_of_mem hc.1, Nat.le_trans (partition_len p _).2 (hp p List.mem_cons_self)⟩
          · rw [if_neg hc] at q
            cases q
        · exact parts_ok (fun p h => hp p (List.mem_cons_of_mem _ h)) q2 x hx
theorem row_ok {tags : Word} {t : Str} {y : RowT} (hz : t.length ≤ 9000) (h : rdLine tags t = some y) : RowOk tags y := by
  unfold rdLine at h
  have hpl := partition_len t (Str.ofString ":")
  by_cases hm : (Txt.partition t ":").2.1.length = 0
  · rw [if_pos hm] at h
    cases h
  rw [if_neg hm] at h
  cases q1 : rd tags 8 (Txt.partition t ":").1 with
  | none =>
    rw [q1] at h
    cases h
  | some wd =>
    rw [q1] at h
    cases q2 : rdWays tags (Txt.partition t ":").2.2 with
    | none =>
      rw [q2] at h
      cases h
    | some l =>
      rw [q2] at h
      cases h
      refine ⟨?_, ?_, ?_⟩
      · unfold rd at q1
        split at q1
        · cases q1
          exact Nat.zero_le _
        · split at q1
          · rename_i hc
            cases q1
            exact hc.1
          · cases q1
      · unfold rd at q1
        split at q1
        · cases q1
          exact fun _ h => nomatch h
        · split at q1
          · rename_i hc
            cases q1
            exact hc.2
          · cases q1
      · unfold rdWays at q2
        cases ql : (Txt.partition t ":").2.2.cps.toList with
        | nil =>
          rw [ql] at q2
          cases q2
          exact fun _ h => nomatch h
        | cons c r =>
          rw [ql] at q2
          have q2 : (if c = 32 then rdParts tags (-1) (Txt.split (cutS (Txt.partition t ":").2.2 (some 1) none) " ") else none) = some l := q2
          by_cases hc : c = 32
          · rw [if_pos hc] at q2
            refine parts_ok (fun p hp => ?_) q2
            have a := split_short (cutS (Txt.partition t ":").2.2 (some 1) none) (Str.ofString " ") (by decide +kernel) (by decide +kernel) p hp
            have b := cutS_length (Txt.partition t ":").2.2 (some 1) none
            have c := hpl.2
            exact Nat.le_trans a (Nat.le_trans b (Nat.le_trans c hz))
          · rw [if_neg hc] at q2
            cases q2
theorem among_ok {nt many : Nat} : ∀ {l : List (Nat × Str)} {ws ws' : Ways}, ws.length = nt → (∀ m, some m ∈ ws → m < many) → among many ws l = some ws' → ws'.length = nt ∧ ∀ m, some m ∈ ws' → m < many
  | [], ws, ws', h1, h2, h => by
    cases h
    exact ⟨h1, h2⟩
  | (i, d) :: l, ws, ws', h1, h2, h => by
    rw [among] at h
    by_cases hc : d.length ≤ 2 ∧ numOf d < many
    · rw [if_pos hc] at h
      refine among_ok (by rw [List.length_set]; exact h1) (fun m hm => ?_) h
      rcases List.mem_or_eq_of_mem_set hm with z | z
      · exact h2 m z
      · cases z
        exact hc.2
    · rw [if_neg hc] at h
      cases h
theorem formR_ok {tags : Word} {many : Nat} : ∀ {rs : List RowT} {F : Form}, (∀ y ∈ rs, RowOk tags y) → formR many tags.length rs = some F → F.length = rs.length ∧ ∀ s ∈ F, StdOk tags many s
  | [], F, _, h => by
    cases h
    exact ⟨rfl, fun _ h => nomatch h⟩
  | (wd, l) :: rs, F, ho, h => by
    rw [formR] at h
    cases q1 : among many (List.replicate tags.length none) l with
    | none =>
      rw [q1] at h
      cases h
    | some ws =>
      rw [q1] at h
      cases q2 : formR many tags.length rs with
      | none =>
        rw [q2] at h
        cases h
      | some G =>
        rw [q2] at h
        cases h
        obtain ⟨e1, e2⟩ := formR_ok (fun y hy => ho y (List.mem_cons_of_mem _ hy)) q2
        refine ⟨by rw [List.length_cons, List.length_cons, e1], fun s hs => ?_⟩
        rcases List.mem_cons.mp hs with rfl | hs
        · have r := ho _ List.mem_cons_self
          obtain ⟨a1, a2⟩ := among_ok (nt := tags.length) (List.length_replicate ..) (fun m hm => by have := List.eq_of_mem_replicate hm; cases this) q1
          exact ⟨r.len, r.sub, a1, a2⟩
        · exact e2 s hs
theorem rows_len {tags : Word} : ∀ {ls : List Str} {k : Nat} {rs : List RowT}, rowsFrom tags k ls = .inr rs → rs.length = ls.length
  | [], _, rs, h => by
    cases h
    rfl
  | x :: ls, k, rs, h => by
    rw [rowsFrom] at h
    cases q : rdLine tags x with
    | none =>
      rw [q] at h
      cases h
    | some y =>
      rw [q] at h
      cases q2 : rowsFrom tags (k + 1) ls with
      | inl j =>
        rw [q2] at h
        cases h
      | inr ys =>
        rw [q2] at h
        cases h
        rw [List.length_cons, List.length_cons, rows_len q2]
end Law
end

section
set_option Elab.async false
set_option linter.all false
set_option maxRecDepth 100000
set_option maxHeartbeats 4000000
namespace Law
open PySem PySem.Spec PyProof.Rows L2 LamX QB QM QV
open TL in
theorem spl_pos {b : List Nat} : ∀ (a : List Nat) (k : Nat) (acc : List Nat), 1 ≤ (spl b k acc a).length
  | [], k, acc => by
    rw [spl_nil]
    exact Nat.le_refl _
  | x :: a, 0, acc => by
    unfold spl
    by_cases h : pre b (x :: a) = true
    · rw [if_pos h, List.length_cons]
      omega
    · rw [if_neg h]
      exact spl_pos a _ _
  | x :: a, k + 1, acc => by
    unfold spl
    exact spl_pos a _ _
open TL in
theorem split_pos (t y : Str) (hy : tl y ≠ []) (hk : y.cps.all (· < 256) = true) : 1 ≤ (Txt.split t y).length := by
  have key := split_spl t y hy (kind_ok hk)
  have := spl_pos (b := tl y) (tl t) 0 []
  rw [← key, List.length_map] at this
  exact this
/-- a row that was read; D: what is yet to be changed -/
def RowAt (D : Addr) (H : Hp) (v : V) (y : RowT) : Prop := ∃ p b f, v = .ref p ∧ b ≠ D ∧ H p = some (.tup [.ref b, .ref f]) ∧ WordAt H b y.1 ∧ H f = some (.dK (encD y.2))
theorem RowAt.same {D : Addr} {H H' : Hp} {v : V} {y : RowT} (h : RowAt D H v y) (s : Same H H') : RowAt D H' v y := by
  obtain ⟨p, b, f, e, n, h1, h2, h3⟩ := h
  exact ⟨p, b, f, e, n, s _ _ h1, Same.word s h2, s _ _ h3⟩
theorem RowAt.upd {D : Addr} {H : Hp} {v : V} {y : RowT} {xs ys : List V} (h : RowAt D H v y) (hD : H D = some (.lst xs)) : RowAt D (upd H D (.lst ys)) v y := by
  obtain ⟨p, b, f, e, n, h1, h2, h3⟩ := h
  exact ⟨p, b, f, e, n, (upd_ne (ne_of h1 hD (fun z => nomatch z))).trans h1, (upd_ne n).trans h2, (upd_ne (ne_of h3 hD (fun z => nomatch z))).trans h3⟩
/-- a standing made of a row, or one whose ways are none -/
def MadeAt (many nt : Nat) (D : Addr) (H : Hp) (v : V) (y : RowT) : Prop := ∃ t b u, v = .ref t ∧ b ≠ D ∧ H t = some (.tup [.ref b, u]) ∧ WordAt H b y.1 ∧
  ((u = .non ∧ among many (List.replicate nt none) y.2 = none) ∨ ∃ p ws, u = .ref p ∧ p ≠ D ∧ WaysAt H p ws ∧ among many (List.replicate nt none) y.2 = some ws)
theorem MadeAt.same {many nt : Nat} {D : Addr} {H H' : Hp} {v : V} {y : RowT} (h : MadeAt many nt D H v y) (s : Same H H') : MadeAt many nt D H' v y := by
  obtain ⟨t, b, u, e, n, h1, h2, h3⟩ := h
  refine ⟨t, b, u, e, n, s _ _ h1, Same.word s h2, ?_⟩
  rcases h3 with h3 | ⟨p, ws, e3, n3, h3, h4⟩
  · exact .inl h3
  · exact .inr ⟨p, ws, e3, n3, Same.ways s h3, h4⟩
theorem MadeAt.upd {many nt : Nat} {D : Addr} {H : Hp} {v : V} {y : RowT} {xs ys : List V} (h : MadeAt many nt D H v y) (hD : H D = some (.lst xs)) : MadeAt many nt D (upd H D (.lst ys)) v y := by
  obtain ⟨t, b, u, e, n, h1, h2, h3⟩ := h
  refine ⟨t, b, u, e, n, (upd_ne (ne_of h1 hD (fun z => nomatch z))).trans h1, (upd_ne n).trans h2, ?_⟩
  rcases h3 with h3 | ⟨p, ws, e3, n3, h3, h4⟩
  · exact .inl h3
  · exact .inr ⟨p, ws, e3, n3, (upd_ne n3).trans h3, h4⟩
theorem made_form {many nt : Nat} {D : Addr} {H : Hp} : ∀ {vs : List V} {rs : List RowT}, Paired (MadeAt many nt D H) vs rs →
    (∃ ts F, formR many nt rs = some F ∧ vs = ts.map V.ref ∧ Paired (StdAt H) ts F ∧ (rs.any fun y => (among many (List.replicate nt none) y.2).isNone) = false) ∨
    (formR many nt rs = none ∧ (rs.any fun y => (among many (List.replicate nt none) y.2).isNone) = true)
  | _, _, .nil => .inl ⟨[], [], rfl, rfl, .nil, rfl⟩
  | _, _, .cons (b := y) h r => by
    obtain ⟨wd, l⟩ := y
    obtain ⟨t, b, u, rfl, n, h1, h2, h3⟩ := h
    rw [formR, List.any_cons]
    rcases h3 with ⟨rfl, h3⟩ | ⟨p, ws, rfl, n3, h3, h4⟩
    · refine .inr ?_
      have h3 : among many (List.replicate nt none) l = none := h3
      rw [h3]
      exact ⟨rfl, rfl⟩
    · have h4 : among many (List.replicate nt none) l = some ws := h4
      rw [h4]
      rcases made_form r with ⟨ts, F, e1, e2, e3, e4⟩ | ⟨e1, e2⟩
      · rw [e1, e4]
        exact .inl ⟨t :: ts, (wd, ws) :: F, rfl, by rw [e2]; rfl, .cons ⟨b, p, h1, h2, h3⟩ e3, rfl⟩
      · rw [e1, e2]
        exact .inr ⟨rfl, by rw [Bool.or_true]⟩
theorem paired_get {α β : Type} {R : α → β → Prop} : ∀ {l : List α} {m : List β} {i : Nat} {x : α}, Paired R l m → l[i]? = some x → ∃ y, m[i]? = some y ∧ R x y
  | _, _, i, _, .nil, e => by simp at e
  | _, _, 0, _, .cons h _, e => by
    simp at e
    subst e
    exact ⟨_, rfl, h⟩
  | _, _, i + 1, _, .cons _ r, e => by
    rw [List.getElem?_cons_succ] at e
    obtain ⟨y, a, b⟩ := paired_get r e
    exact ⟨y, by rw [List.getElem?_cons_succ]; exact a, b⟩
theorem paired_len {α β : Type} {R : α → β → Prop} : ∀ {l : List α} {m : List β}, Paired R l m → l.length = m.length
  | _, _, .nil => rfl
  | _, _, .cons _ r => by rw [List.length_cons, List.length_cons, paired_len r]
section
variable {P : Program} {w : World} {K : PySem.W.Frag} {mg : Str → Option Value} {base : Heap}
def spReadEater (T : List (Addr × Str)) (C CT CX : Addr) : Sp := fun vs H Q E => ∃ (v y : V) (dv dy : PyData) (H0 : Hp), vs = [v, y] ∧ Dv H v dv ∧ Dv H y dy ∧ dv.weight ≤ 8000 ∧ dy.weight ≤ 8000 ∧ Tabs T H ∧ QB.Ext T H0 H ∧
  (∀ iv, tagsDue dv = some iv → Bad CT "index" iv H E) ∧
  ∀ tags, TagsOk tags → dv = .list (tags.map .str) → match parseD tags dy with
    | .line iv => Bad CX "line" iv H E
    | .eater F => ∀ e H', QB.Ext T H0 H' → Tabs T H' → EatAt C H' e tags (least tags F) → Q (.ref e) H'
theorem okx_read_eater (X : TX K mg) (TB : LamX.TabB base mg X.lam_c X.lam_P) : FnOk P w K mg base (L2.CX P w) 7 X.d_read_eater.a X.d_read_eater.fd ["tags", "text"] (spReadEater (Tof X) X.c_Eater X.e_InvalidTags X.e_InvalidText) := by
  have nd := sc_read_eater.nd
  refine X.d_read_eater.F.okX sc_read_eater (fun vs H Q E h => ?_) (fun cdv A outer s H vs Q E hr h => ?_)
  · obtain ⟨v, y, dv, dy, H0, rfl, _⟩ := h
    rfl
  · obtain ⟨v, y, dv, dy, H0, rfl, hv, hy, zv, zy, tb, e0, hbad, h⟩ := h
    refine ⟨_, (pss_cons (ps_expr (pe_call (okx_check_tags X) (hr.mono (by decide)) rfl X.d_check_tags.mg X.d_check_tags.F.kp X.d_check_tags.b .nil (passes_call (takes_of rfl rfl rfl rfl) (fun _ _ _ _ h => h)) (pa_cons (pv 0) pa_nil))) (pss_cons (ps_if (pt_not (pt_val (pe_callB (QB.call_isiK K) (by rfl) X.n_isinstance QB.bo_isinstance (pa_cons (pv 1) (pa_cons (pe_bltn (v := .ty "str") (by rfl) X.n_str QB.bo_str rfl) pa_nil))))) (pss_one (ps_raise rfl (takes_of rfl rfl rfl rfl) (pmk_oex X.xt_InvalidText.oex X.xt_InvalidText.iC X.xt_InvalidText.tI (ok_InvalidText___init__ X) (hr.mono (by decide)) X.d_InvalidText___init__.b .nil pass0 rfl X.me_InvalidText (pa_cons pe_non pa_nil)))) pss_nil) (pss_cons (ps_set (i := 2) nd rfl (Or.inr rfl) (pe_split (pv 1) pe_str)) (pss_cons (ps_set (i := 3) nd rfl (Or.inl rfl) (pe_lst pa_nil)) (pss_cons (ps_for (passes_of rfl) rfl (QB.pi_enumK K (by rfl) X.n_enumerate (pa_cons (pv 2) pa_nil)) (pg_tup (by rfl) (pgs_cons (pg_name (i := 4) nd rfl (Or.inl rfl)) (pgs_cons (pg_name (i := 5) nd rfl (Or.inl rfl)) (pgs_nil)))) (pss_cons (ps_expr (QB.pe_bmK K PySem.F.plainAttrs_list PySem.F.slot_list_append PySem.F.type_list_append mt_append (pv 3) (pa_cons (pe_call (ok_read_line X) (hr.mono (by decide)) rfl X.d_read_line.mg X.d_read_line.F.kp X.d_read_line.b .nil pass0 (pa_cons (pv 0) (pa_cons (pv 5) pa_nil))) pa_nil))) (pss_one (ps_if (pt_cmpR op_isN (pe_ix (QB.ix_listK K) (pv 3) (pv 4) (fun _ _ => rfl)) pe_non (nomark _)) (pss_one (ps_raise rfl (takes_of rfl rfl rfl rfl) (pmk_oex X.xt_InvalidText.oex X.xt_InvalidText.iC X.xt_InvalidText.tI (ok_InvalidText___init__ X) (hr.mono (by decide)) X.d_InvalidText___init__.b .nil pass0 rfl X.me_InvalidText (pa_cons (pv 4) pa_nil)))) pss_nil)))) (pss_cons (ps_setLc (i := 6) (own := [("word", 7), ("found", 8)]) (g := gTup K 2 (gCons (gName 7) (gCons (gName 8) (gNil)))) (tt := tYes) rfl nd rfl rfl (sw_true rfl rfl rfl (by decide +kernel)) (QB.pi_listK K (pv 3)) (blkOk_by (N := ["tags", "text", "lines", "told", "at", "line", "standings", "word", "found", "_", "ways"]) (sc := defScope s_read_eater) (by decide +kernel)) (fun _ _ _ _ _ => pg_tup (by rfl) (pgs_cons (pg_name (i := 7) nd rfl (Or.inl rfl)) (pgs_cons (pg_name (i := 8) nd rfl (Or.inl rfl)) (pgs_nil)))) (fun _ _ _ _ _ => pts_nil) (fun _ _ _ _ _ => (pe_tup (pa_cons (pv 7) (pa_cons (pe_call (ok_ways_among X) (hr.mono (by decide)) rfl X.d_ways_among.mg X.d_ways_among.F.kp X.d_ways_among.b .nil pass0 (pa_cons (pv 0) (pa_cons (pv 8) (pa_cons (pe_callB (QB.call_lenK K) (by rfl) X.n_len PySem.boot_len (pa_cons (pv 2) pa_nil)) pa_nil)))) pa_nil))))) (pss_cons (ps_if (PW.pt (pw_or (pt_cmpR op_gt (pe_callB (QB.call_lenK K) (by rfl) X.n_len PySem.boot_len (pa_cons (pv 2) pa_nil)) (pe_gc rfl X.c_MOST_STANDINGS) (nomark _)) (pw_or1 (pt_val (pe_callB (QB.cr_anyK K rfl) (by rfl) X.n_any QB.bo_any (pa_cons (pe_lc (own := [("_", 9), ("ways", 10)]) (g := gTup K 2 (gCons (gName 9) (gCons (gName 10) (gNil)))) (tt := tYes) rfl nd (QB.pi_listK K (pv 6)) (blkOk_by (N := ["tags", "text", "lines", "told", "at", "line", "standings", "word", "found", "_", "ways"]) (sc := defScope s_read_eater) (by decide +kernel)) (fun _ _ _ _ _ => pg_tup (by rfl) (pgs_cons (pg_name (i := 9) nd rfl (Or.inl rfl)) (pgs_cons (pg_name (i := 10) nd rfl (Or.inl rfl)) (pgs_nil)))) (fun _ _ _ _ _ => pts_nil) (fun _ _ _ _ _ => (pe_cmpR op_isN (pv 10) pe_non (nomark _)))) pa_nil)))))) (pss_one (ps_raise rfl (takes_of rfl rfl rfl rfl) (pmk_oex X.xt_InvalidText.oex X.xt_InvalidText.iC X.xt_InvalidText.tI (ok_InvalidText___init__ X) (hr.mono (by decide)) X.d_InvalidText___init__.b .nil pass0 rfl X.me_InvalidText (pa_cons (pe_callB (QB.call_lenK K) (by rfl) X.n_len PySem.boot_len (pa_cons (pv 2) pa_nil)) pa_nil)))) pss_nil) (pss_one (ps_ret (pe_make X.mk_Eater (ok_Eater___init__ X TB) (hr.mono (by decide)) rfl X.m_Eater X.d_Eater___init__.b .nil pass0 (pa_cons (pv 0) (pa_cons (pv 6) pa_nil)))))))))))), ?_⟩
    try dsimp only [Cx.nox, Cx.wish, cxOf]
    refine ⟨_, rfl, v, dv, rfl, hv, by omega, hbad, fun ed H1 s1 => ?_⟩
    obtain ⟨a, tags, rfl, ha, to, rfl⟩ := tags_of hv ed
    have h := h tags to rfl
    have ha1 := Same.word s1 ha
    have hy1 := hy.same s1
    have htl := to.len
    refine ⟨_, rfl, _, _, _, _, isSD dy, rfl, .ty "str", hy1.ty K, kit_s dy, isSD dy, rfl, ?_⟩
    cases hy with
    | str t =>
      refine iteF ?_
      rw [w_str] at zy
      have h : (match parse tags t with
        | .line iv => Bad X.e_InvalidText "line" iv H E
        | .eater F => ∀ e H', QB.Ext (Tof X) H0 H' → Tabs (Tof X) H' → EatAt X.c_Eater H' e tags (least tags F) → Q (.ref e) H') := h
      unfold parse at h
      have hs := split_le t (Str.ofString "\n")
      have hpl := split_short t (Str.ofString "\n") (by decide +kernel) (by decide +kernel)
      have hpos := split_pos t (Str.ofString "\n") (by decide +kernel) (by decide +kernel)
      refine ⟨_, rfl, ⟨_, rfl⟩, t, _, rfl, rfl, by decide, sz_le (by omega), fun q hq => ?_⟩
      have s2 := Same.new s1 (o := .lst ((Txt.split t (Str.ofString "\n")).map V.str)) hq
      have kq : WordAt (upd H1 q (.lst ((Txt.split t (Str.ofString "\n")).map V.str))) q (Txt.split t (Str.ofString "\n")) := upd_same
      have ha2 := Same.word (same_new (o := .lst ((Txt.split t (Str.ofString "\n")).map V.str)) hq) ha1
      generalize upd H1 q (.lst ((Txt.split t (Str.ofString "\n")).map V.str)) = H2 at s2 kq ha2 ⊢
      have hs : (Txt.split t (Str.ofString "\n")).length ≤ t.length + 2 := hs
      generalize Txt.split t (Str.ofString "\n") = ls at h hs hpl hpos kq
      refine ⟨by show 0 ≤ sizeLine; decide, fun D hD => ?_⟩
      have s3 := Same.new s2 (o := .lst ([] : List V)) hD
      have kq3 := Same.word (same_new (o := .lst ([] : List V)) hD) kq
      have kD : (upd H2 D (.lst [])) D = some (.lst []) := upd_same
      have hDN : H D = none := s2.free hD
      have hDN2 : H2 D = none := hD
      have s23 := same_new (o := .lst ([] : List V)) hD
      generalize upd H2 D (.lst []) = H3 at s3 kq3 kD s23 ⊢
      have nqD : q ≠ D := ne_of_none kq hDN2
      refine ⟨_, rfl, _, _, rfl, SqL.of kq3, ?_⟩
      refine for_it (walk_enumW (K := K) (a := q) (w := ls)) (fun i σ H' => ∃ (v4 v5 : Option V) (acc : List RowT) (vs : List V), σ = [some (.ref a), some (.str t), some (.ref q), some (.ref D), v4, v5, none, none, none, none, none] ∧ Same H H' ∧ WordAt H' q ls ∧ H' D = some (.lst vs) ∧ Paired (RowAt D H') vs acc ∧ acc.length = i ∧ (∀ y ∈ acc, RowOk tags y) ∧
          rowsFrom tags 0 ls = pre1 acc (rowsFrom tags i (ls.drop i)))
        ⟨_, _, [], [], rfl, s3, kq3, kD, .nil, rfl, (fun _ h => nomatch h), by rw [List.drop_zero]; cases rowsFrom tags 0 ls <;> rfl⟩ (fun i σ H' _ ⟨_, _, _, _, _, _, z, _⟩ => z) ?_ ?_
      · rintro i v σ H4 H5 hi ⟨v4, v5, acc, vs, rfl, s4, wq, dD, pr, al, ro, hrd⟩ ⟨tp, x, hx, ntp, rfl, rfl⟩
        have hxl := hpl x (List.mem_of_getElem? hx)
        have ed : ls.drop i = x :: ls.drop (i + 1) := by
          obtain ⟨hlt, e⟩ := List.getElem?_eq_some_iff.mp hx
          rw [List.drop_eq_getElem_cons hlt, e]
        rw [ed, rowsFrom] at hrd
        have st := same_new (o := .tup [.int (i : Int), .str x]) ntp
        have s5 := s4.trans st
        have wq5 := Same.word st wq
        have dD5 := st _ _ dD
        have pr5 : Paired (RowAt D (upd H4 tp (.tup [.int (i : Int), .str x]))) vs acc := L2.Paired.mapP pr fun _ _ z => z.same st
        refine ⟨tp, _, rfl, SqT.of upd_same, rfl, _, _, rfl, _, _, rfl, rfl, ?_⟩
        generalize upd H4 tp (.tup [.int (i : Int), .str x]) = H5 at s5 wq5 dD5 pr5 ⊢
        clear st
        refine ⟨_, rfl, .inl ⟨rfl, _, SqL.of dD5⟩, ?_⟩
        refine ⟨_, rfl, _, rfl, a, tags, x, rfl, Same.word s5 ha, by omega, fun u H6 s6 hu => ?_⟩
        dsimp only [tNil]
        have dD6 := s6 _ _ dD5
        have vl : vs.length = i := by rw [paired_len pr5, al]
        refine ⟨D, _, _, rfl, rfl, dD6, sz_lt (by omega), ?_⟩
        have s7 : Same H (upd H6 D (.lst (vs ++ [u]))) := Same.mut (s5.trans s6) hDN
        have wq7 : WordAt (upd H6 D (.lst (vs ++ [u]))) q ls := (upd_ne nqD).trans (Same.word s6 wq5)
        have pr7 : Paired (RowAt D (upd H6 D (.lst (vs ++ [u])))) vs acc := L2.Paired.mapP pr5 fun _ _ z => (z.same s6).upd dD6
        refine ⟨_, rfl, _, rfl, D, _, _, u, rfl, rfl, SqL.of upd_same, atI_nat (by rw [List.getElem?_append_right (by omega), vl, Nat.sub_self]; rfl), rfl, _, rfl, ?_⟩
        rcases hu with ⟨rfl, hn⟩ | ⟨p, b, f, wd, l, rfl, nb, h1, h2, h3, hsome⟩
        · rw [hn] at hrd
          have hrd : rowsFrom tags 0 ls = .inl i := hrd
          rw [hrd] at h
          rw [decide_eq_true rfl]
          refine iteT ?_
          exact ⟨_, rfl, ((show Bad X.e_InvalidText "line" (.int (i : Int)) H E from h).same s7).mk (K := K)⟩
        · rw [hsome] at hrd
          dsimp only at hrd
          rw [decide_eq_false (fun z => nomatch z)]
          refine iteF ?_
          have bD : b ≠ D := fun z => by
            rw [z, dD5] at nb
            cases nb
          have hr7 : RowAt D (upd H6 D (.lst (vs ++ [V.ref p]))) (.ref p) (wd, l) := RowAt.upd ⟨p, b, f, rfl, bD, h1, h2, h3⟩ dD6
          refine ⟨_, _, acc ++ [(wd, l)], vs ++ [V.ref p], rfl, s7, wq7, upd_same, Paired.snoc pr7 hr7, by rw [List.length_append, al]; rfl, fun y hy => ?_, ?_⟩
          · rcases List.mem_append.mp hy with hy | hy
            · exact ro y hy
            · rw [List.mem_singleton.mp hy]
              exact row_ok (by omega) hsome
          · rw [hrd]
            cases rowsFrom tags (i + 1) (ls.drop (i + 1)) with
            | inl j => rfl
            | inr ys =>
              show Sum.inr (acc ++ (wd, l) :: ys) = Sum.inr (acc ++ [(wd, l)] ++ ys)
              rw [List.append_assoc]
              rfl
      · rintro σ H4 ⟨v4, v5, acc, vs, rfl, s4, wq, dD, pr, al, ro, hrd⟩
        rw [List.drop_eq_nil_of_le (Nat.le_refl _)] at hrd
        have hrd : rowsFrom tags 0 ls = .inr (acc ++ []) := hrd
        rw [List.append_nil] at hrd
        rw [hrd] at h
        dsimp only at h
        rw [al] at h
        have vl : vs.length = ls.length := by rw [paired_len pr, al]
        refine ⟨_, rfl, _, rfl, ⟨_, SqL.of dD⟩, fun D2 hD2 => ?_⟩
        refine lc_it (walk_list (K := K) (a := D) (xs := vs)) (fun i H' => Same H4 H' ∧ ∃ us, H' D2 = some (.lst us) ∧ Paired (MadeAt ls.length tags.length D2 H') us (acc.take i) ∧ us.length = i)
          ⟨same_new hD2, [], upd_same, .nil, rfl⟩ (fun i H' _ h => SqL.of (h.1 _ _ dD)) ?_ ?_
        · rintro i x H8 H9 hi ⟨s8, us, hus, pu, ul⟩ ⟨rfl, hx⟩
          obtain ⟨y, hy, p, b, f, rfl, nb, h1, h2, h3⟩ := paired_get pr hx
          obtain ⟨wd, l⟩ := y
          have hro := ro _ (List.mem_of_getElem? hy)
          have bD2 : b ≠ D2 := ne_of_none h2 hD2
          refine ⟨p, _, rfl, SqT.of (s8 _ _ h1), rfl, _, _, rfl, _, _, rfl, rfl, rfl, ?_⟩
          refine ⟨_, rfl, _, rfl, _, rfl, _, rfl, _, _, rfl, .inl (SqL.of (Same.word s8 wq)), a, f, tags, l, ls.length, by rw [vS_len]; rfl, Same.word (s4.trans s8) ha, by omega, s8 _ _ h3, hro.ways, fun u H10 s10 hu => ?_⟩
          refine ⟨by show 2 ≤ sizeLine; decide, fun tt htt => ?_⟩
          have s11 := s10.trans (same_new (o := .tup [.ref b, u]) htt)
          have hus11 := s11 _ _ hus
          have mk : MadeAt ls.length tags.length D2 (upd H10 tt (.tup [.ref b, u])) (.ref tt) (wd, l) := by
            refine ⟨tt, b, u, rfl, bD2, upd_same, Same.word s11 (Same.word s8 h2), ?_⟩
            rcases hu with ⟨rfl, hn⟩ | ⟨p2, ws, rfl, np, hws, hsome⟩
            · exact .inl ⟨rfl, hn⟩
            · exact .inr ⟨p2, ws, rfl, (fun z => by rw [z] at np; rw [(hus : _ = _)] at np; cases np), Same.ways (same_new htt) hws, hsome⟩
          refine ⟨us, hus11, sz_lt (by omega), Same.mut (s8.trans s11) hD2, us ++ [.ref tt], upd_same, ?_, by rw [List.length_append, ul]; rfl⟩
          have et : acc.take (i + 1) = acc.take i ++ [(wd, l)] := by rw [List.take_succ, hy]; rfl
          rw [et]
          exact Paired.snoc (L2.Paired.mapP pu fun _ _ z => (z.same s11).upd hus11) (mk.upd hus11)
        · rintro H8 ⟨s8, us, hus, pu, ul⟩
          rw [List.take_of_length_le (by omega)] at pu
          have s48 := s4.trans s8
          have wq8 := Same.word s8 wq
          have al8 : us.length = ls.length := by rw [ul, vl]
          refine ⟨_, rfl, _, _, rfl, .inl (SqL.of wq8), _, _, rfl, rfl, _, rfl, ?_⟩
          rw [vS_len]
          have toolong : ∀ {H9 : Hp}, Same H H9 → Bad X.e_InvalidText "line" (.int (ls.length : Int)) H E → Bad X.e_InvalidText "line" (.int (ls.length : Int)) H9 E := fun s b => b.same s
          by_cases h30 : ls.length ≤ 30
          case neg =>
            rw [if_neg h30] at h
            rw [decide_eq_true (by omega)]
            refine iteT ?_
            refine ⟨_, rfl, _, _, rfl, .inl (SqL.of wq8), ?_⟩
            rw [vS_len]
            exact (toolong s48 h).mk (K := K)
          rw [if_pos h30] at h
          rw [decide_eq_false (by omega)]
          refine iteF ?_
          refine ⟨_, rfl, _, rfl, ⟨_, SqL.of hus⟩, fun D3 hD3 => ?_⟩
          refine lc_map (walk_list (K := K) (a := D2) (xs := us)) hD3 (by omega) (fun H9 s9 => SqL.of (s9 _ _ hus)) (fun i => .bl (((acc[i]?).map fun y => (among ls.length (List.replicate tags.length none) y.2).isNone).getD false)) ?_ ?_
          · rintro i x H9 H10 kk hi s9 ⟨rfl, hx⟩ hk
            obtain ⟨y, hy, tt, b, u, rfl, nb, h1, h2, h3⟩ := paired_get pu hx
            have e := hk _ (Same.refl H10)
            rw [hy] at e
            have e : kk (.bl (among ls.length (List.replicate tags.length none) y.2).isNone) H10 := e
            refine ⟨tt, _, rfl, SqT.of (s9 _ _ h1), rfl, _, _, rfl, _, _, rfl, rfl, rfl, ?_⟩
            refine ⟨_, rfl, rfl, ?_⟩
            rcases h3 with ⟨rfl, hn⟩ | ⟨p, ws, rfl, np, hws, hsome⟩
            · rw [hn] at e
              exact e
            · rw [hsome] at e
              exact e
          · intro H9 s9 e9
            have e9 : H9 D3 = some (.lst ((acc.map fun y => (among ls.length (List.replicate tags.length none) y.2).isNone).map V.bl)) := by
              rw [e9, show us.length = acc.length by rw [al8, al], range_map_get _ acc (fun y => .bl (among ls.length (List.replicate tags.length none) y.2).isNone) (fun i x hx => by rw [hx]; rfl), List.map_map]
              rfl
            refine ⟨D3, _, rfl, SqL.of e9, ?_⟩
            rw [List.any_map]
            have s49 := s48.trans s9
            have pu9 : Paired (MadeAt ls.length tags.length D2 H9) us acc := L2.Paired.mapP pu fun _ _ z => z.same s9
            rcases made_form pu9 with ⟨ts, F, eF, eu, pF, ea⟩ | ⟨eF, ea⟩
            · rw [eF] at h
              have h : ∀ e H', QB.Ext (Tof X) H0 H' → Tabs (Tof X) H' → EatAt X.c_Eater H' e tags (least tags F) → Q (.ref e) H' := h
              have ea : (acc.any (id ∘ fun y => (among ls.length (List.replicate tags.length none) y.2).isNone)) = false := ea
              rw [ea]
              refine ⟨_, rfl, iteF ?_⟩
              obtain ⟨fl, fall⟩ := formR_ok ro eF
              have fo : FormOk tags F := ⟨by rw [fl, al]; exact hpos, by rw [fl, al]; exact h30, by rw [fl, al]; exact fall⟩
              have fat : FormAt H9 D2 F := ⟨ts, by rw [s9 _ _ hus, eu], pF⟩
              have e09 := e0.trans (.of s49)
              have t9 := tb.ext s49
              refine ⟨_, rfl, _, rfl, fun x dx hx hd hne => ?_⟩
              have hx' : (upd H9 dx (.own x)) x = none := (upd_ne hne.symm).trans hx
              have sM : Same H9 (upd (upd H9 dx (.own x)) x (.ins X.c_Eater dx [])) := Same.new (same_new hd) hx'
              refine ⟨x, dx, a, D2, tags, F, H0, rfl, upd_same, Same.word (s49.trans sM) ha, Same.form sM fat, to, fo, t9.ext sM, e09.trans (.of sM), e09.fresh (.of hx), fun a' b' L H' e9' t9' n9 => ⟨rfl, h x H' e9' t9' n9.at_⟩⟩
            · rw [eF] at h
              have h : Bad X.e_InvalidText "line" (.int (ls.length : Int)) H E := h
              have ea : (acc.any (id ∘ fun y => (among ls.length (List.replicate tags.length none) y.2).isNone)) = true := ea
              rw [ea]
              refine ⟨_, rfl, iteT ?_⟩
              refine ⟨_, rfl, _, _, rfl, .inl (SqL.of (Same.word s9 wq8)), ?_⟩
              rw [vS_len]
              exact (toolong s49 h).mk (K := K)
    | _ =>
      refine iteT ?_
      exact ((show Bad X.e_InvalidText "line" .non H E from h).same s1).mk (K := K)
end
end Law
end

section
set_option linter.all false
set_option autoImplicit false
/-! Qleast: what a form makes, and that its least form makes the same. -/
namespace QM
open PySem QB
/-- what is made from a standing on -/
def eff (tags : List Str) (F : Form) : Nat → Word → Word
  | k, [] => wordOf F k
  | k, t :: w => match wayAt tags F k t with
    | none => wordOf F k ++ t :: w
    | some b => eff tags F b w
theorem walkFrom_ge (tags : List Str) (F : Form) : ∀ (w : Word) (a k : Nat), k ≤ (walkFrom tags F a k w).2
  | [], _, _ => Nat.le_refl _
  | t :: w, a, k => by
    unfold walkFrom
    cases wayAt tags F a t with
    | none => exact Nat.le_refl _
    | some b => exact Nat.le_trans (Nat.le_succ k) (walkFrom_ge tags F w b (k + 1))
theorem walkFrom_eff (tags : List Str) (F : Form) : ∀ (w : Word) (a k : Nat), wordOf F (walkFrom tags F a k w).1 ++ w.drop ((walkFrom tags F a k w).2 - k) = eff tags F a w
  | [], _, _ => by simp [walkFrom, eff]
  | t :: w, a, k => by
    unfold walkFrom eff
    cases wayAt tags F a t with
    | none => simp
    | some b =>
      have h := walkFrom_ge tags F w b (k + 1)
      have ih := walkFrom_eff tags F w b (k + 1)
      show wordOf F (walkFrom tags F b (k + 1) w).1 ++ (t :: w).drop ((walkFrom tags F b (k + 1) w).2 - k) = eff tags F b w
      rw [← ih, show (walkFrom tags F b (k + 1) w).2 - k = ((walkFrom tags F b (k + 1) w).2 - (k + 1)) + 1 by omega, List.drop_succ_cons]
theorem make_eff (tags : List Str) (F : Form) (w : Word) : make tags F w = eff tags F 0 w := by
  have := walkFrom_eff tags F w 0 0
  rw [Nat.sub_zero] at this
  exact this

theorem wordOf_std {F : Form} {k : Nat} (h : k < F.length) : wordOf F k = (stdOf F k).1 := wordOf_of (stdOf_get h)
theorem wayAt_std {tags : List Str} {F : Form} {k : Nat} {t : Str} (h : k < F.length) : wayAt tags F k t = way tags (stdOf F k) t := wayAt_of (stdOf_get h)
theorem way_mem {tags : List Str} {s : Std} {t : Str} {n : Nat} (h : way tags s t = some n) : some n ∈ s.2 := by
  unfold way at h
  cases e : s.2[ixOf tags t]? with
  | none =>
    rw [e] at h
    cases h
  | some x =>
    rw [e] at h
    have h : x = some n := h
    rw [← h]
    exact List.mem_of_getElem? e
theorem Good.std_to {tags : List Str} {F : Form} (g : Good tags F) {k n : Nat} (hk : k < F.length) (h : some n ∈ (stdOf F k).2) : n < F.length := g.to _ (mem_of (stdOf_get hk)) n h
theorem Good.std_len {tags : List Str} {F : Form} (g : Good tags F) {k : Nat} (hk : k < F.length) : (stdOf F k).2.length = tags.length := g.len _ (mem_of (stdOf_get hk))

/-! ### without needless ways -/
theorem Pruned.std {tags : List Str} {F : Form} {st : Form × List Bool} (p : Pruned tags F st) {k : Nat} (hk : k < F.length) : (stdOf st.1 k).1 = (stdOf F k).1 ∧ (stdOf st.1 k).2.length = (stdOf F k).2.length ∧ ∀ n, some n ∈ (stdOf st.1 k).2 → some n ∈ (stdOf F k).2 :=
  p.word k _ (stdOf_get (by rw [p.len]; exact hk))
theorem way_prune {tags : List Str} {F : Form} {S : List Bool} {s : Std} {t : Str} (hl : s.2.length = tags.length) (ht : t ∈ tags) : way tags (pruneStd tags F S s) t = pruneWay F S s.1 t (way tags s t) := by
  have hlt : tags.idxOf t < tags.length := List.idxOf_lt_length_of_mem ht
  have e1 : tags[tags.idxOf t]? = some t := by rw [List.getElem?_eq_getElem hlt, List.getElem_idxOf]
  have e2 : s.2[tags.idxOf t]? = some (s.2[tags.idxOf t]'(by omega)) := List.getElem?_eq_getElem (by omega)
  have e3 := pruneWays_get (F := F) (S := S) e1 e2
  unfold way ixOf
  show ((pruneWays tags F S s)[tags.idxOf t]?).join = pruneWay F S s.1 t (s.2[tags.idxOf t]?).join
  rw [e3, e2]
  rfl
structure PInv (tags : List Str) (F : Form) (st : Form × List Bool) : Prop where
  p : Pruned tags F st
  same : ∀ (w : Word) (k : Nat), k < F.length → (∀ t ∈ w, t ∈ tags) → eff tags st.1 k w = eff tags F k w
  set : ∀ k, k < F.length → st.2.getD k false = true → ∀ w : Word, (∀ t ∈ w, t ∈ tags) → eff tags F k w = wordOf F k ++ w
theorem PInv.start {tags : List Str} {F : Form} : PInv tags F (F, List.replicate F.length false) :=
  ⟨Pruned.start tags F, fun _ _ _ _ => rfl, fun k hk h => by
    have h : (List.replicate F.length false).getD k false = true := h
    rw [List.getD_eq_getElem?_getD, List.getElem?_replicate, if_pos hk] at h
    cases h⟩
theorem eff_cons {tags : List Str} {F : Form} {k : Nat} {t : Str} {w : Word} : eff tags F k (t :: w) = match wayAt tags F k t with
    | none => wordOf F k ++ t :: w
    | some b => eff tags F b w := rfl
theorem PInv.step {tags : List Str} {F : Form} (g : Good tags F) {st : Form × List Bool} (i : PInv tags F st) {k : Nat} (hk : k < F.length) : PInv tags F (needStep tags F st k) := by
  have p' := i.p.step g hk
  have len' := p'.len
  have ss := i.p.std hk
  have gl := g.std_len hk
  have wd : ∀ j, j < F.length → wordOf (needStep tags F st k).1 j = wordOf F j := fun j hj => by
    rw [wordOf_std (by rw [len']; exact hj), wordOf_std hj]
    exact (p'.std hj).1
  have wj : ∀ j t, j < F.length → j ≠ k → wayAt tags (needStep tags F st k).1 j t = wayAt tags st.1 j t := fun j t hj hne => by
    unfold wayAt
    show ((st.1.set k _)[j]?).bind _ = _
    rw [List.getElem?_set_ne (Ne.symm hne)]
  have wk : ∀ t, t ∈ tags → wayAt tags (needStep tags F st k).1 k t = pruneWay F st.2 (stdOf F k).1 t (wayAt tags st.1 k t) := fun t ht => by
    have e : (needStep tags F st k).1[k]? = some (pruneStd tags F st.2 (stdOf st.1 k)) := by
      show (st.1.set k _)[k]? = _
      rw [List.getElem?_set_self (by rw [i.p.len]; exact hk)]
    rw [wayAt_of e, way_prune (by rw [ss.2.1, gl]) ht, ss.1, wayAt_std (by rw [i.p.len]; exact hk)]
  have same : ∀ (w : Word) (j : Nat), j < F.length → (∀ t ∈ w, t ∈ tags) → eff tags (needStep tags F st k).1 j w = eff tags F j w := by
    intro w
    induction w with
    | nil => exact fun j hj _ => wd j hj
    | cons t w ih =>
      intro j hj ht
      have ht1 := ht t List.mem_cons_self
      have htw : ∀ x ∈ w, x ∈ tags := fun x hx => ht x (List.mem_cons_of_mem _ hx)
      rw [← i.same (t :: w) j hj ht, eff_cons, eff_cons]
      have wds : wordOf st.1 j = wordOf F j := by
        rw [wordOf_std (by rw [i.p.len]; exact hj), wordOf_std hj]
        exact (i.p.std hj).1
      have lt : ∀ n, wayAt tags st.1 j t = some n → n < F.length := fun n hn => by
        rw [wayAt_std (by rw [i.p.len]; exact hj)] at hn
        exact g.std_to hj ((i.p.std hj).2.2 n (way_mem hn))
      by_cases hjk : j = k
      · subst hjk
        rw [wk t ht1]
        cases e : wayAt tags st.1 j t with
        | none => show wordOf _ j ++ t :: w = wordOf st.1 j ++ t :: w; rw [wd j hj, wds]
        | some n =>
          have hn := lt n e
          by_cases hd : isNeedless F st.2 (stdOf F j).1 t n = true
          · have e2 : pruneWay F st.2 (stdOf F j).1 t (some n) = none := if_pos hd
            rw [e2]
            show wordOf _ j ++ t :: w = eff tags st.1 n w
            unfold isNeedless at hd
            rw [Bool.and_eq_true] at hd
            rw [i.same w n hn htw, i.set n hn hd.1 w htw, wd j hj, wordOf_std hn, of_decide_eq_true hd.2, wordOf_std hj]
            simp
          · have e2 : pruneWay F st.2 (stdOf F j).1 t (some n) = some n := if_neg hd
            rw [e2]
            show eff tags _ n w = eff tags st.1 n w
            rw [ih n hn htw, i.same w n hn htw]
      · rw [wj j t hj hjk]
        cases e : wayAt tags st.1 j t with
        | none => show wordOf _ j ++ t :: w = wordOf st.1 j ++ t :: w; rw [wd j hj, wds]
        | some n =>
          have hn := lt n e
          show eff tags _ n w = eff tags st.1 n w
          rw [ih n hn htw, i.same w n hn htw]
  refine ⟨p', same, fun j hj hs w hw => ?_⟩
  have hs : (st.2.set k ((pruneWays tags F st.2 (stdOf st.1 k)).all Option.isNone)).getD j false = true := hs
  rw [List.getD_eq_getElem?_getD] at hs
  by_cases hjk : k = j
  · subst hjk
    rw [List.getElem?_set_self (by rw [i.p.lenS]; exact hk)] at hs
    have hs : (pruneWays tags F st.2 (stdOf st.1 k)).all Option.isNone = true := hs
    rw [← same w k hk hw]
    cases w with
    | nil =>
      show wordOf _ k = _
      rw [wd k hk, List.append_nil]
    | cons t w =>
      rw [eff_cons]
      cases e : wayAt tags (needStep tags F st k).1 k t with
      | none => show wordOf _ k ++ _ = _; rw [wd k hk]
      | some n =>
        have e1 : (needStep tags F st k).1[k]? = some (pruneStd tags F st.2 (stdOf st.1 k)) := by
          show (st.1.set k _)[k]? = _
          rw [List.getElem?_set_self (by rw [i.p.len]; exact hk)]
        rw [wayAt_of e1] at e
        have := List.all_eq_true.mp hs _ (way_mem e)
        cases this
  · rw [List.getElem?_set_ne hjk, ← List.getD_eq_getElem?_getD] at hs
    exact i.set j hj hs w hw
theorem PInv.fold {tags : List Str} {F : Form} (g : Good tags F) : ∀ (ks : List Nat) (st : Form × List Bool), PInv tags F st → (∀ k ∈ ks, k < F.length) → PInv tags F (ks.foldl (needStep tags F) st)
  | [], _, p, _ => p
  | k :: ks, st, p, h => PInv.fold g ks (needStep tags F st k) (p.step g (h k List.mem_cons_self)) fun j hj => h j (List.mem_cons_of_mem _ hj)
theorem needInv {tags : List Str} {F : Form} (g : Good tags F) : PInv tags F (needFold tags F (byLen F)) := PInv.fold g _ _ PInv.start fun k hk => byLen_lt hk
theorem needless_eff {tags : List Str} {F : Form} (g : Good tags F) {w : Word} {k : Nat} (hk : k < F.length) (hw : ∀ t ∈ w, t ∈ tags) : eff tags (needless tags F) k w = eff tags F k w := (needInv g).same w k hk hw
theorem needless_length {tags : List Str} {F : Form} (g : Good tags F) : (needless tags F).length = F.length := (needInv g).p.len
theorem needless_good {tags : List Str} {F : Form} (g : Good tags F) : Good tags (needless tags F) := by
  have p := (needInv g).p
  have hl := p.len
  have key : ∀ s ∈ needless tags F, ∃ k, k < F.length ∧ s = stdOf (needless tags F) k := fun s hs => by
    obtain ⟨k, hk, e⟩ := List.mem_iff_getElem.mp hs
    have e' : (needless tags F)[k]? = some s := by rw [List.getElem?_eq_getElem hk, e]
    rw [stdOf_get hk] at e'
    exact ⟨k, by rw [← needless_length g]; exact hk, (Option.some.inj e').symm⟩
  refine ⟨by rw [needless_length g]; exact g.pos, fun s hs => ?_, fun s hs n hn => ?_, by rw [needless_length g]; exact g.small⟩
  · obtain ⟨k, hk, rfl⟩ := key s hs
    exact (p.std hk).2.1.trans (g.std_len hk)
  · obtain ⟨k, hk, rfl⟩ := key s hs
    rw [needless_length g]
    exact g.std_to hk ((p.std hk).2.2 n hn)
end QM
end

section
set_option linter.all false
set_option autoImplicit false
/-! Qleast2: classes that stay, the order in which they are met. -/
namespace QM
open PySem QB
structure Stable (F : Form) (cs : List Nat) : Prop where
  len : cs.length = F.length
  word : ∀ i j, i < F.length → j < F.length → clsOf cs i = clsOf cs j → (stdOf F i).1 = (stdOf F j).1
  ways : ∀ i j, i < F.length → j < F.length → clsOf cs i = clsOf cs j → (stdOf F i).2.map (Option.map (clsOf cs)) = (stdOf F j).2.map (Option.map (clsOf cs))
theorem way_map (tags : List Str) (s : Std) (f : Option Nat → Option Nat) (hf : f none = none) (t : Str) : way tags (s.1, s.2.map f) t = f (way tags s t) := by
  unfold way
  show ((s.2.map f)[ixOf tags t]?).join = f ((s.2[ixOf tags t]?).join)
  rw [List.getElem?_map]
  cases s.2[ixOf tags t]? with
  | none => exact hf.symm
  | some x => rfl
theorem Stable.way {F : Form} {cs : List Nat} (S : Stable F cs) (tags : List Str) {i j : Nat} (hi : i < F.length) (hj : j < F.length) (h : clsOf cs i = clsOf cs j) (t : Str) : (way tags (stdOf F i) t).map (clsOf cs) = (way tags (stdOf F j) t).map (clsOf cs) := by
  have e := S.ways i j hi hj h
  have e1 := way_map tags (stdOf F i) (Option.map (clsOf cs)) rfl t
  have e2 := way_map tags (stdOf F j) (Option.map (clsOf cs)) rfl t
  rw [← e1, ← e2, e]
  rfl
theorem Stable.eff {tags : List Str} {F : Form} {cs : List Nat} (g : Good tags F) (S : Stable F cs) : ∀ (w : Word) (i j : Nat), i < F.length → j < F.length → clsOf cs i = clsOf cs j → eff tags F i w = eff tags F j w
  | [], i, j, hi, hj, h => by
    show wordOf F i = wordOf F j
    rw [wordOf_std hi, wordOf_std hj]
    exact S.word i j hi hj h
  | t :: w, i, j, hi, hj, h => by
    rw [eff_cons, eff_cons, wayAt_std hi, wayAt_std hj, wordOf_std hi, wordOf_std hj, S.word i j hi hj h]
    have e := S.way tags hi hj h t
    cases e1 : QM.way tags (stdOf F i) t with
    | none =>
      rw [e1] at e
      cases e2 : QM.way tags (stdOf F j) t with
      | none => rfl
      | some n =>
        rw [e2] at e
        cases e
    | some m =>
      rw [e1] at e
      cases e2 : QM.way tags (stdOf F j) t with
      | none =>
        rw [e2] at e
        cases e
      | some n =>
        rw [e2] at e
        have e : some (clsOf cs m) = some (clsOf cs n) := e
        exact Stable.eff g S w m n (g.std_to hi (way_mem e1)) (g.std_to hj (way_mem e2)) (Option.some.inj e)
theorem idxOf_pre' {l t : List Nat} {x : Nat} (h : x ∈ l) : (l ++ t).idxOf x = l.idxOf x := by
  rw [List.idxOf_append, if_pos h]
theorem newStd_pre {cs met t : List Nat} {s : Std} (h : ∀ n, some n ∈ s.2 → clsOf cs n ∈ met.map (clsOf cs)) : newStd cs (met ++ t) s = newStd cs met s := by
  unfold newStd
  congr 1
  refine List.map_congr_left fun w hw => ?_
  cases w with
  | none => rfl
  | some n =>
    show some ((((met ++ t).map (clsOf cs)).idxOf (clsOf cs n))) = some ((met.map (clsOf cs)).idxOf (clsOf cs n))
    rw [List.map_append, idxOf_pre' (h n hw)]
/-- what is told so far -/
structure OrdOf (F : Form) (cs met : List Nat) (told : Form) : Prop where
  m : Met F cs met
  zero : met[0]? = some 0
  le : told.length ≤ met.length
  at_ : ∀ i, i < told.length → told[i]? = some (newStd cs met (stdOf F (met.getD i 0)))
  in_ : ∀ i, i < told.length → ∀ n, some n ∈ (stdOf F (met.getD i 0)).2 → clsOf cs n ∈ met.map (clsOf cs)
theorem getD_pre {l t : List Nat} {i : Nat} (h : i < l.length) : (l ++ t).getD i 0 = l.getD i 0 := by
  rw [List.getD_eq_getElem?_getD, List.getD_eq_getElem?_getD, List.getElem?_append_left h]
theorem OrdOf.step {tags : List Str} {F : Form} {cs met : List Nat} {told : Form} (g : Good tags F) (o : OrdOf F cs met told) (h : told.length < met.length) :
    OrdOf F cs (visitAll cs met (stdOf F (met.getD told.length 0)).2) (told ++ [newStd cs (visitAll cs met (stdOf F (met.getD told.length 0)).2) (stdOf F (met.getD told.length 0))]) := by
  have hm : met.getD told.length 0 ∈ met := by
    rw [List.getD_eq_getElem?_getD, List.getElem?_eq_getElem h]
    exact List.getElem_mem h
  have hF := o.m.lt _ hm
  obtain ⟨t, e⟩ := visitAll_pre cs (stdOf F (met.getD told.length 0)).2 met
  have has := visitAll_has cs (stdOf F (met.getD told.length 0)).2 met
  have hmet := o.m.visitAll (ws := (stdOf F (met.getD told.length 0)).2) fun n hn => g.std_to hF hn
  generalize hM : visitAll cs met (stdOf F (met.getD told.length 0)).2 = M at e has hmet
  have gd : ∀ i, i < met.length → M.getD i 0 = met.getD i 0 := fun i hi => by rw [e]; exact getD_pre hi
  have in' : ∀ i, i < told.length + 1 → ∀ n, some n ∈ (stdOf F (M.getD i 0)).2 → clsOf cs n ∈ M.map (clsOf cs) := fun i hi n hn => by
    rw [gd i (by omega)] at hn
    by_cases hl : i < told.length
    · rw [e, List.map_append]
      exact List.mem_append_left _ (o.in_ i hl n hn)
    · have : i = told.length := by omega
      subst this
      exact has n hn
  refine ⟨hmet, ?_, ?_, fun i hi => ?_, fun i hi => ?_⟩
  · rw [e, List.getElem?_append_left (by omega)]
    exact o.zero
  · rw [List.length_append, e, List.length_append]
    show told.length + 1 ≤ _
    omega
  · rw [List.length_append] at hi
    have hi : i < told.length + 1 := hi
    rw [gd i (by omega)]
    by_cases hl : i < told.length
    · rw [List.getElem?_append_left hl, o.at_ i hl, e, newStd_pre (o.in_ i hl)]
    · have : i = told.length := by omega
      subst this
      rw [List.getElem?_append_right (Nat.le_refl _), Nat.sub_self]
      rfl
  · rw [List.length_append] at hi
    exact in' i hi
theorem orderLoop_ord {tags : List Str} {F : Form} {cs : List Nat} (g : Good tags F) : ∀ (f : Nat) (met : List Nat) (told : Form), OrdOf F cs met told → F.length + 1 ≤ told.length + f → ∃ met', OrdOf F cs met' (orderLoop F cs f met told) ∧ (orderLoop F cs f met told).length = met'.length
  | 0, met, told, o, h => by
    have := o.le
    have := o.m.len
    omega
  | f + 1, met, told, o, h => by
    unfold orderLoop
    by_cases hl : told.length < met.length
    · rw [if_pos hl]
      exact orderLoop_ord g f _ _ (o.step g hl) (by rw [List.length_append]; show _ ≤ told.length + 1 + f; omega)
    · rw [if_neg hl]
      exact ⟨met, o, by have := o.le; omega⟩
theorem inOrder_ord {tags : List Str} {F : Form} (g : Good tags F) (cs : List Nat) : ∃ met, OrdOf F cs met (inOrder F cs) ∧ (inOrder F cs).length = met.length := by
  refine orderLoop_ord g (F.length + 1) [0] [] ⟨⟨by simp, fun m hm => ?_⟩, rfl, by simp, fun i hi => absurd hi (Nat.not_lt_zero _), fun i hi => absurd hi (Nat.not_lt_zero _)⟩ (by simp)
  rw [List.mem_singleton.mp hm]
  exact g.pos
theorem OrdOf.std {F : Form} {cs met : List Nat} {R : Form} (o : OrdOf F cs met R) {i : Nat} (h : i < R.length) : stdOf R i = newStd cs met (stdOf F (met.getD i 0)) := by
  have e := o.at_ i h
  rw [stdOf_get h] at e
  exact Option.some.inj e
theorem OrdOf.lt {F : Form} {cs met : List Nat} {R : Form} (o : OrdOf F cs met R) {i : Nat} (h : i < R.length) : met.getD i 0 < F.length := by
  have h' : i < met.length := Nat.lt_of_lt_of_le h o.le
  refine o.m.lt _ ?_
  rw [List.getD_eq_getElem?_getD, List.getElem?_eq_getElem h']
  exact List.getElem_mem h'
theorem OrdOf.idx {F : Form} {cs met : List Nat} {R : Form} (o : OrdOf F cs met R) (hl : R.length = met.length) {n : Nat} (h : clsOf cs n ∈ met.map (clsOf cs)) : (met.map (clsOf cs)).idxOf (clsOf cs n) < R.length ∧ clsOf cs (met.getD ((met.map (clsOf cs)).idxOf (clsOf cs n)) 0) = clsOf cs n := by
  have hlt := List.idxOf_lt_length_of_mem h
  have hlt' : (met.map (clsOf cs)).idxOf (clsOf cs n) < met.length := by rwa [List.length_map] at hlt
  refine ⟨by omega, ?_⟩
  have e := List.getElem_idxOf hlt
  rw [List.getElem_map] at e
  rw [List.getD_eq_getElem?_getD, List.getElem?_eq_getElem hlt']
  exact e
theorem OrdOf.eff {tags : List Str} {F : Form} {cs met : List Nat} {R : Form} (g : Good tags F) (S : Stable F cs) (o : OrdOf F cs met R) (hl : R.length = met.length) : ∀ (w : Word) (i : Nat), i < R.length → eff tags R i w = eff tags F (met.getD i 0) w
  | [], i, hi => by
    show wordOf R i = wordOf F _
    rw [wordOf_std hi, wordOf_std (o.lt hi), o.std hi]
    rfl
  | t :: w, i, hi => by
    rw [eff_cons, eff_cons, wayAt_std hi, wayAt_std (o.lt hi), wordOf_std hi, wordOf_std (o.lt hi), o.std hi]
    have e := way_map tags (stdOf F (met.getD i 0)) (newWay cs met) rfl t
    rw [show newStd cs met (stdOf F (met.getD i 0)) = ((stdOf F (met.getD i 0)).1, (stdOf F (met.getD i 0)).2.map (newWay cs met)) from rfl, e]
    cases e1 : way tags (stdOf F (met.getD i 0)) t with
    | none => rfl
    | some n =>
      have hn := way_mem e1
      obtain ⟨h1, h2⟩ := o.idx hl (o.in_ i hi n hn)
      show QM.eff tags R ((met.map (clsOf cs)).idxOf (clsOf cs n)) w = QM.eff tags F n w
      rw [OrdOf.eff g S o hl w _ h1]
      exact S.eff g w _ _ (o.lt h1) (g.std_to (o.lt hi) hn) h2
theorem OrdOf.good {tags : List Str} {F : Form} {cs met : List Nat} {R : Form} (g : Good tags F) (o : OrdOf F cs met R) (hl : R.length = met.length) : Good tags R := by
  have key : ∀ s ∈ R, ∃ k, k < R.length ∧ s = stdOf R k := fun s hs => by
    obtain ⟨k, hk, e⟩ := List.mem_iff_getElem.mp hs
    have e' : R[k]? = some s := by rw [List.getElem?_eq_getElem hk, e]
    rw [stdOf_get hk] at e'
    exact ⟨k, hk, (Option.some.inj e').symm⟩
  have h0 : 0 < met.length := (List.getElem?_eq_some_iff.mp o.zero).1
  refine ⟨by omega, fun s hs => ?_, fun s hs n hn => ?_, by have := o.m.len; have := g.small; omega⟩
  · obtain ⟨k, hk, rfl⟩ := key s hs
    rw [o.std hk]
    show ((stdOf F _).2.map _).length = _
    rw [List.length_map]
    exact g.std_len (o.lt hk)
  · obtain ⟨k, hk, rfl⟩ := key s hs
    rw [o.std hk] at hn
    obtain ⟨x, hx, e⟩ := List.mem_map.mp (show some n ∈ (stdOf F (met.getD k 0)).2.map (newWay cs met) from hn)
    cases x with
    | none => cases e
    | some m =>
      have e : some ((met.map (clsOf cs)).idxOf (clsOf cs m)) = some n := e
      rw [← Option.some.inj e]
      exact (o.idx hl (o.in_ k hk m hx)).1
end QM
end

section
set_option linter.all false
set_option autoImplicit false
/-! Qleast3: the classes that are found stay. -/
namespace QM
open PySem QB L2
section
variable {α : Type} [DecidableEq α]
theorem numb_cls {ms : List α} {i : Nat} {x : α} (h : ms[i]? = some x) : clsOf (QD.numb ms) i = (QD.seenOf ms).idxOf x := by
  unfold clsOf QD.numb
  rw [List.getD_eq_getElem?_getD, List.getElem?_map, h]
  rfl
theorem idxOf_inj' {l : List α} {x y : α} (hx : x ∈ l) (hy : y ∈ l) (h : l.idxOf x = l.idxOf y) : x = y := by
  have h1 := List.getElem_idxOf (List.idxOf_lt_length_of_mem hx)
  have h2 := List.getElem_idxOf (List.idxOf_lt_length_of_mem hy)
  rw [← h1, ← h2]
  congr 1
theorem numb_inj {ms : List α} {i j : Nat} {x y : α} (hi : ms[i]? = some x) (hj : ms[j]? = some y) : clsOf (QD.numb ms) i = clsOf (QD.numb ms) j ↔ x = y := by
  rw [numb_cls hi, numb_cls hj]
  constructor
  · exact idxOf_inj' ((QD.mem_seenOf ms x).mpr (List.mem_of_getElem? hi)) ((QD.mem_seenOf ms y).mpr (List.mem_of_getElem? hj))
  · exact fun e => by rw [e]
theorem idxOf_nodup {l : List α} (nd : l.Nodup) {k : Nat} (h : k < l.length) : l.idxOf l[k] = k := by
  have hm : l[k] ∈ l := List.getElem_mem h
  have h1 := List.idxOf_lt_length_of_mem hm
  have h2 := List.getElem_idxOf h1
  exact (List.getElem_inj nd).mp h2
theorem maxOf_numb {ms : List α} (h : ms ≠ []) : maxOf (QD.numb ms) + 1 = (QD.seenOf ms).length := by
  have h0 : 0 < (QD.seenOf ms).length := by
    cases ms with
    | nil => exact absurd rfl h
    | cons x r => exact List.length_pos_of_mem ((QD.mem_seenOf (x :: r) x).mpr List.mem_cons_self)
  have hk : (QD.seenOf ms).length - 1 < (QD.seenOf ms).length := by omega
  have e : maxOf (QD.numb ms) = (QD.seenOf ms).length - 1 := by
    refine maxOf_eq ?_ fun x hx => by have := numb_lt hx; omega
    have hm : (QD.seenOf ms)[(QD.seenOf ms).length - 1] ∈ ms := (QD.mem_seenOf ms _).mp (List.getElem_mem hk)
    have := idxOf_nodup (QD.seenOf_nodup ms) hk
    exact List.mem_map.mpr ⟨_, hm, this⟩
  omega
end
theorem nodup_sub_len : ∀ (l m : List Nat), l.Nodup → (∀ x ∈ l, x ∈ m) → l.length ≤ m.length
  | [], _, _, _ => Nat.zero_le _
  | x :: l, m, nd, h => by
    rw [List.nodup_cons] at nd
    have hx := h x List.mem_cons_self
    have h1 := nodup_sub_len l (m.erase x) nd.2 fun y hy => by
      have hy' := h y (List.mem_cons_of_mem _ hy)
      exact (List.mem_erase_of_ne (fun e => nd.1 (by rw [← e]; exact hy))).mpr hy'
    have h2 := List.length_erase_of_mem hx
    have h3 := List.length_pos_of_mem hx
    rw [List.length_cons]
    omega
theorem inj_of_cover {L : List Nat} {k : Nat} (hl : L.length ≤ k) (hc : ∀ x, x < k → x ∈ L) {i j x : Nat} (hi : L[i]? = some x) (hj : L[j]? = some x) : i = j := by
  rcases Nat.lt_trichotomy i j with h | h | h
  · exfalso
    have key : ∀ (i j : Nat), i ≠ j → L[i]? = some x → L[j]? = some x → False := fun i j hne hi hj => by
      have hjl : j < L.length := (List.getElem?_eq_some_iff.mp hj).1
      have h1 := nodup_sub_len (List.range k) (L.eraseIdx j) List.nodup_range fun y hy => by
        have hy' := hc y (List.mem_range.mp hy)
        obtain ⟨p, hp, e⟩ := List.mem_iff_getElem.mp hy'
        have e' : L[p]? = some y := by rw [List.getElem?_eq_getElem hp, e]
        rw [List.mem_eraseIdx_iff_getElem?]
        by_cases hpj : p = j
        · subst hpj
          rw [hj] at e'
          exact ⟨i, hne, by rw [hi]; exact e'⟩
        · exact ⟨p, hpj, e'⟩
      rw [List.length_range, List.length_eraseIdx, if_pos hjl] at h1
      omega
    exact key i j (by omega) hi hj
  · exact h
  · exfalso
    have key : ∀ (i j : Nat), i ≠ j → L[i]? = some x → L[j]? = some x → False := fun i j hne hi hj => by
      have hjl : j < L.length := (List.getElem?_eq_some_iff.mp hj).1
      have h1 := nodup_sub_len (List.range k) (L.eraseIdx j) List.nodup_range fun y hy => by
        have hy' := hc y (List.mem_range.mp hy)
        obtain ⟨p, hp, e⟩ := List.mem_iff_getElem.mp hy'
        have e' : L[p]? = some y := by rw [List.getElem?_eq_getElem hp, e]
        rw [List.mem_eraseIdx_iff_getElem?]
        by_cases hpj : p = j
        · subst hpj
          rw [hj] at e'
          exact ⟨i, hne, by rw [hi]; exact e'⟩
        · exact ⟨p, hpj, e'⟩
      rw [List.length_range, List.length_eraseIdx, if_pos hjl] at h1
      omega
    exact key i j (by omega) hi hj
/-- the class in a key -/
def keyCls : NestedKey → Nat
  | .tup (.num i :: _) => i.toNat
  | _ => 0
theorem partKeys_get {cs : List Nat} {F : Form} (hl : cs.length = F.length) {i : Nat} (hi : i < F.length) : (partKeys cs F)[i]? = some (partKey cs (clsOf cs i, stdOf F i)) := by
  have e1 : cs[i]? = some (clsOf cs i) := by
    unfold clsOf
    rw [List.getD_eq_getElem?_getD, List.getElem?_eq_getElem (by omega)]
    rfl
  have ez : (cs.zip F)[i]? = some (clsOf cs i, stdOf F i) := by
    rw [List.getElem?_zip_eq_some]
    exact ⟨e1, stdOf_get hi⟩
  unfold partKeys
  rw [List.getElem?_map, ez]
  rfl
theorem partKey_eq {cs : List Nat} {p q : Nat × Std} (h : partKey cs p = partKey cs q) : p.1 = q.1 ∧ p.2.2.map (wayNum cs) = q.2.2.map (wayNum cs) := by
  unfold partKey at h
  injection h with h
  injection h with h1 h2
  injection h1 with h1
  injection h2 with h2 _
  injection h2 with h2
  exact ⟨by omega, h2⟩
theorem wayNum_eq {cs : List Nat} {x y : Option Nat} (h : wayNum cs x = wayNum cs y) : x.map (clsOf cs) = y.map (clsOf cs) := by
  cases x with
  | none =>
    cases y with
    | none => rfl
    | some n =>
      have h : NestedKey.num (-1) = .num ((cs.getD n 0 : Nat) : Int) := h
      injection h with h
      omega
  | some m =>
    cases y with
    | none =>
      have h : NestedKey.num ((cs.getD m 0 : Nat) : Int) = .num (-1) := h
      injection h with h
      omega
    | some n =>
      have h : NestedKey.num ((cs.getD m 0 : Nat) : Int) = .num ((cs.getD n 0 : Nat) : Int) := h
      injection h with h
      show some (cs.getD m 0) = some (cs.getD n 0)
      congr 1
      omega
theorem wayNum_of {cs : List Nat} {x y : Option Nat} (h : x.map (clsOf cs) = y.map (clsOf cs)) : wayNum cs x = wayNum cs y := by
  cases x with
  | none =>
    cases y with
    | none => rfl
    | some n => cases h
  | some m =>
    cases y with
    | none => cases h
    | some n =>
      have h : some (cs.getD m 0) = some (cs.getD n 0) := h
      show NestedKey.num ((cs.getD m 0 : Nat) : Int) = .num ((cs.getD n 0 : Nat) : Int)
      rw [Option.some.inj h]
theorem part_fine {cs : List Nat} {F : Form} (hl : cs.length = F.length) {i j : Nat} (hi : i < F.length) (hj : j < F.length) (h : clsOf (part cs F) i = clsOf (part cs F) j) : clsOf cs i = clsOf cs j ∧ (stdOf F i).2.map (Option.map (clsOf cs)) = (stdOf F j).2.map (Option.map (clsOf cs)) := by
  obtain ⟨h1, h2⟩ := partKey_eq ((numb_inj (partKeys_get hl hi) (partKeys_get hl hj)).mp h)
  refine ⟨h1, ?_⟩
  have h2 : (stdOf F i).2.map (wayNum cs) = (stdOf F j).2.map (wayNum cs) := h2
  generalize (stdOf F i).2 = a at h2
  generalize (stdOf F j).2 = b at h2
  induction a generalizing b with
  | nil =>
    cases b with
    | nil => rfl
    | cons y b => cases h2
  | cons x a ih =>
    cases b with
    | nil => cases h2
    | cons y b =>
      rw [List.map_cons, List.map_cons] at h2
      injection h2 with h3 h4
      rw [List.map_cons, List.map_cons, wayNum_eq h3, ih b h4]
theorem part_coarse {α : Type} [DecidableEq α] {ms : List α} {F : Form} (hl : ms.length = F.length) (hc : (QD.seenOf (partKeys (QD.numb ms) F)).length ≤ (QD.seenOf ms).length) {i j : Nat} (hi : i < F.length) (hj : j < F.length) (h : clsOf (QD.numb ms) i = clsOf (QD.numb ms) j) :
    clsOf (part (QD.numb ms) F) i = clsOf (part (QD.numb ms) F) j := by
  have hl' : (QD.numb ms).length = F.length := by rw [QD.numb_len, hl]
  have gi := partKeys_get hl' hi
  have gj := partKeys_get hl' hj
  refine (numb_inj gi gj).mpr ?_
  have mi := (QD.mem_seenOf _ _).mpr (List.mem_of_getElem? gi)
  have mj := (QD.mem_seenOf _ _).mpr (List.mem_of_getElem? gj)
  obtain ⟨a, ha, ea⟩ := List.mem_iff_getElem.mp mi
  obtain ⟨b, hb, eb⟩ := List.mem_iff_getElem.mp mj
  have kc : ∀ p : Nat × Std, keyCls (partKey (QD.numb ms) p) = p.1 := fun p => by
    show ((p.1 : Int)).toNat = p.1
    omega
  have hcov : ∀ x, x < (QD.seenOf ms).length → x ∈ (QD.seenOf (partKeys (QD.numb ms) F)).map keyCls := fun x hx => by
    have hm : (QD.seenOf ms)[x] ∈ ms := (QD.mem_seenOf ms _).mp (List.getElem_mem hx)
    obtain ⟨p, hp, ep⟩ := List.mem_iff_getElem.mp hm
    have ep' : ms[p]? = some (QD.seenOf ms)[x] := by rw [List.getElem?_eq_getElem hp, ep]
    have e1 := numb_cls ep'
    rw [idxOf_nodup (QD.seenOf_nodup ms) hx] at e1
    have gp := partKeys_get hl' (show p < F.length by omega)
    refine List.mem_map.mpr ⟨_, (QD.mem_seenOf _ _).mpr (List.mem_of_getElem? gp), ?_⟩
    rw [kc]
    exact e1
  have e : a = b := inj_of_cover (L := (QD.seenOf (partKeys (QD.numb ms) F)).map keyCls) (k := (QD.seenOf ms).length) (by rw [List.length_map]; exact hc) hcov (x := clsOf (QD.numb ms) i)
    (by rw [List.getElem?_map, List.getElem?_eq_getElem ha, ea]; show some _ = _; rw [kc]) (by rw [List.getElem?_map, List.getElem?_eq_getElem hb, eb]; show some _ = _; rw [kc]; exact congrArg some h.symm)
  subst e
  rw [← ea, ← eb]
theorem wordKey_eq {s s' : Std} (h : wordKey s = wordKey s') : s.1 = s'.1 := by
  unfold wordKey at h
  injection h with h
  exact List.map_inj_right (fun x y e => by injection e) |>.mp h
theorem map_up {a b : Ways} {f g : Option Nat → Option Nat} {P : Option Nat → Prop} (ha : ∀ x ∈ a, P x) (hb : ∀ x ∈ b, P x) (up : ∀ x y, P x → P y → f x = f y → g x = g y) (h : a.map f = b.map f) : a.map g = b.map g := by
  induction a generalizing b with
  | nil =>
    cases b with
    | nil => rfl
    | cons y b => cases h
  | cons x a ih =>
    cases b with
    | nil => cases h
    | cons y b =>
      rw [List.map_cons, List.map_cons] at h
      injection h with h3 h4
      rw [List.map_cons, List.map_cons, up x y (ha x List.mem_cons_self) (hb y List.mem_cons_self) h3, ih (fun z hz => ha z (List.mem_cons_of_mem _ hz)) (fun z hz => hb z (List.mem_cons_of_mem _ hz)) h4]
structure AInv (F : Form) (many : Nat) (cs : List Nat) : Prop where
  num : ∃ ms : List NestedKey, cs = QD.numb ms ∧ ms.length = F.length
  word : ∀ i j, i < F.length → j < F.length → clsOf cs i = clsOf cs j → (stdOf F i).1 = (stdOf F j).1
  le : many ≤ F.length
  prev : many = 0 ∨ ∃ ms' : List NestedKey, ms'.length = F.length ∧ cs = part (QD.numb ms') F ∧ (QD.seenOf ms').length = many
theorem alikeLoop_stable {tags : List Str} {F : Form} (g : Good tags F) (hF : 0 < F.length) : ∀ (f many : Nat) (cs : List Nat), AInv F many cs → F.length + 1 ≤ f + many → Stable F (alikeLoop F f many cs)
  | 0, many, cs, a, h => by
    have := a.le
    omega
  | f + 1, many, cs, a, h => by
    obtain ⟨ms, hcs, hml⟩ := a.num
    have hne : ms ≠ [] := fun e => by
      rw [e] at hml
      have : (0 : Nat) = F.length := hml
      omega
    have hmax := maxOf_numb hne
    have hlen : cs.length = F.length := by rw [hcs, QD.numb_len, hml]
    unfold alikeLoop
    by_cases hm : many ≤ maxOf cs
    · rw [if_pos hm]
      refine alikeLoop_stable g hF f (maxOf cs + 1) (part cs F) ⟨⟨partKeys cs F, rfl, partKeys_len hlen⟩, fun i j hi hj e => ?_, ?_, .inr ⟨ms, hml, by rw [hcs], by rw [hcs]; exact hmax.symm⟩⟩ (by omega)
      · exact a.word i j hi hj (part_fine hlen hi hj e).1
      · rw [hcs, hmax]
        have := QD.seenOf_len ms
        omega
    · rw [if_neg hm]
      rcases a.prev with h0 | ⟨ms', hl', hp, hc⟩
      · omega
      · have hl2 : (QD.numb ms').length = F.length := by rw [QD.numb_len, hl']
        have hcount : (QD.seenOf (partKeys (QD.numb ms') F)).length ≤ (QD.seenOf ms').length := by
          have hpl : partKeys (QD.numb ms') F ≠ [] := fun e => by
            have := partKeys_len hl2
            rw [e] at this
            have : (0 : Nat) = F.length := this
            omega
          have := maxOf_numb hpl
          have e : maxOf cs = maxOf (QD.numb (partKeys (QD.numb ms') F)) := by rw [hp]; rfl
          omega
        refine ⟨hlen, a.word, fun i j hi hj e => ?_⟩
        rw [hp] at e ⊢
        obtain ⟨h1, h2⟩ := part_fine hl2 hi hj e
        have up : ∀ x y : Option Nat, (∀ n, x = some n → n < F.length) → (∀ n, y = some n → n < F.length) → x.map (clsOf (QD.numb ms')) = y.map (clsOf (QD.numb ms')) → x.map (clsOf (part (QD.numb ms') F)) = y.map (clsOf (part (QD.numb ms') F)) := fun x y hx hy e => by
          cases x with
          | none =>
            cases y with
            | none => rfl
            | some n => cases e
          | some m =>
            cases y with
            | none => cases e
            | some n =>
              have e : some (clsOf (QD.numb ms') m) = some (clsOf (QD.numb ms') n) := e
              show some _ = some _
              rw [part_coarse hl' hcount (hx m rfl) (hy n rfl) (Option.some.inj e)]
        exact map_up (P := fun x => ∀ n, x = some n → n < F.length) (fun x hx n e => g.std_to hi (e ▸ hx)) (fun x hx n e => g.std_to hj (e ▸ hx)) up h2
theorem alike_stable {tags : List Str} {F : Form} (g : Good tags F) : Stable F (alike F) := by
  refine alikeLoop_stable g g.pos (F.length + 1) 0 _ ⟨⟨wordKeys F, rfl, by simp [wordKeys]⟩, fun i j hi hj e => ?_, Nat.zero_le _, .inl rfl⟩ (Nat.le_refl _)
  have gi : (wordKeys F)[i]? = some (wordKey (stdOf F i)) := by
    unfold wordKeys
    rw [List.getElem?_map, stdOf_get hi]
    rfl
  have gj : (wordKeys F)[j]? = some (wordKey (stdOf F j)) := by
    unfold wordKeys
    rw [List.getElem?_map, stdOf_get hj]
    rfl
  exact wordKey_eq ((numb_inj gi gj).mp e)
/-- the least form makes what the form makes -/
theorem least_ord {tags : List Str} {F : Form} (g : Good tags F) : ∃ met, OrdOf (needless tags F) (alike (needless tags F)) met (least tags F) ∧ (least tags F).length = met.length := inOrder_ord (needless_good g) _
theorem least_eff {tags : List Str} {F : Form} (g : Good tags F) {w : Word} (hw : ∀ t ∈ w, t ∈ tags) : eff tags (least tags F) 0 w = eff tags F 0 w := by
  obtain ⟨met, o, hl⟩ := least_ord g
  have gN := needless_good g
  have h0 := o.zero
  have h1 : 0 < met.length := (List.getElem?_eq_some_iff.mp h0).1
  rw [o.eff gN (alike_stable gN) hl w 0 (by omega)]
  have e : met.getD 0 0 = 0 := by rw [List.getD_eq_getElem?_getD, h0]; rfl
  rw [e]
  exact needless_eff g g.pos hw
theorem least_make {tags : List Str} {F : Form} (g : Good tags F) {w : Word} (hw : ∀ t ∈ w, t ∈ tags) : make tags (least tags F) w = make tags F w := by
  rw [make_eff, make_eff]
  exact least_eff g hw
theorem least_good {tags : List Str} {F : Form} (g : Good tags F) : Good tags (least tags F) := by
  obtain ⟨met, o, hl⟩ := least_ord g
  exact o.good (needless_good g) hl
theorem least_len {tags : List Str} {F : Form} (g : Good tags F) : (least tags F).length ≤ F.length := by
  obtain ⟨met, o, hl⟩ := least_ord g
  have := o.m.len
  rw [needless_length g] at this
  omega
theorem least_word {tags : List Str} {F : Form} (g : Good tags F) {s : Std} (h : s ∈ least tags F) : ∃ s' ∈ F, s.1 = s'.1 := by
  obtain ⟨met, o, hl⟩ := least_ord g
  obtain ⟨k, hk, e⟩ := List.mem_iff_getElem.mp h
  have e' : (least tags F)[k]? = some s := by rw [List.getElem?_eq_getElem hk, e]
  rw [stdOf_get hk, o.std hk] at e'
  have hm := o.lt hk
  rw [needless_length g] at hm
  refine ⟨stdOf F (met.getD k 0), mem_of (stdOf_get hm), ?_⟩
  rw [← Option.some.inj e']
  exact ((needInv g).p.std hm).1
end QM
end

section
set_option Elab.async false
set_option linter.all false
set_option maxRecDepth 100000
set_option maxHeartbeats 4000000
namespace Law
open PySem PySem.Spec PyProof.Rows L2 LamX QB QM QV
/-- what is told of a text to be read, in a list at p -/
def RdAt (H : Hp) (p : Addr) (dv dy : PyData) : Prop := match tagsDue dv with
  | some iv => H p = some (.lst [.str "tags", iv])
  | none => match parseD (tagsIn dv) dy with
    | .line iv => H p = some (.lst [.str "line", iv])
    | .eater F => ∃ b, H p = some (.lst [.str "eater", .ref b]) ∧ FormAt H b (least (tagsIn dv) F)
theorem look1 (f : Str) (v : V) : List.lookup f [(f, v)] = some v := by simp [List.lookup]
theorem due_none {tags : Word} (to : TagsOk tags) : tagsDue (.list (tags.map .str)) = none := by
  show (if 1 ≤ (tags.map PyData.str).length ∧ (tags.map PyData.str).length ≤ 6 then idx (firstBad (badTag (tags.map .str)) (tags.map PyData.str).length) else some .non) = none
  rw [List.length_map, if_pos ⟨to.pos, to.len⟩, first_none]
  · rfl
  intro i hi
  unfold badTag
  rw [List.getElem?_map, List.getElem?_eq_getElem hi]
  show (!nameB tags[i] || _) = false
  rw [nameB_ok (to.names _ (List.getElem_mem hi)), ← List.map_take, same_any]
  show decide (tags[i] ∈ tags.take i) = false
  refine decide_eq_false fun hm => ?_
  obtain ⟨j, hj, e⟩ := List.mem_take_iff_getElem.mp hm
  have := nd_ix to.nd (List.getElem?_eq_getElem (by omega : j < tags.length)) (by rw [e]; exact List.getElem?_eq_getElem hi)
  omega
theorem rows_ok {tags : Word} : ∀ {ls : List Str} {k : Nat} {rs : List RowT}, (∀ x ∈ ls, x.length ≤ 9000) → rowsFrom tags k ls = .inr rs → ∀ y ∈ rs, RowOk tags y
  | [], _, rs, _, h => by
    cases h
    exact fun _ h => nomatch h
  | x :: ls, k, rs, hl, h => by
    rw [rowsFrom] at h
    cases q : rdLine tags x with
    | none =>
      rw [q] at h
      cases h
    | some y =>
      rw [q] at h
      cases q2 : rowsFrom tags (k + 1) ls with
      | inl j =>
        rw [q2] at h
        cases h
      | inr ys =>
        rw [q2] at h
        cases h
        intro z hz
        rcases List.mem_cons.mp hz with rfl | hz
        · exact row_ok (hl x List.mem_cons_self) q
        · exact rows_ok (fun u hu => hl u (List.mem_cons_of_mem _ hu)) q2 z hz
theorem parse_ok {tags : Word} {t : Str} {F : Form} (hz : t.length ≤ 9000) (h : parse tags t = .eater F) : FormOk tags F := by
  unfold parse at h
  have hpl := split_short t (Str.ofString "\n") (by decide +kernel) (by decide +kernel)
  have hpos := split_pos t (Str.ofString "\n") (by decide +kernel) (by decide +kernel)
  cases q : rowsFrom tags 0 (Txt.split t (Str.ofString "\n")) with
  | inl k =>
    rw [q] at h
    cases h
  | inr rs =>
    rw [q] at h
    dsimp only at h
    have hl := rows_len q
    by_cases h30 : rs.length ≤ 30
    case neg =>
      rw [if_neg h30] at h
      cases h
    rw [if_pos h30] at h
    cases q2 : formR rs.length tags.length rs with
    | none =>
      rw [q2] at h
      cases h
    | some G =>
      rw [q2] at h
      cases h
      obtain ⟨e1, e2⟩ := formR_ok (rows_ok (fun x hx => Nat.le_trans (hpl x hx) hz) q) q2
      exact ⟨by rw [e1, hl]; exact hpos, by rw [e1]; exact h30, by rw [e1]; exact e2⟩
theorem parseD_ok {tags : Word} {d : PyData} {F : Form} (hz : d.weight ≤ 9000) (h : parseD tags d = .eater F) : FormOk tags F := by
  cases d with
  | str t =>
    rw [w_str] at hz
    exact parse_ok hz h
  | _ => cases h
section
variable {P : Program} {w : World} {K : PySem.W.Frag} {mg : Str → Option Value} {base : Heap}
def spTold (T : List (Addr × Str)) : Sp := fun vs H Q _ => ∃ (v y : V) (dv dy : PyData), vs = [v, y] ∧ Dv H v dv ∧ Dv H y dy ∧ dv.weight ≤ 8000 ∧ dy.weight ≤ 8000 ∧ Tabs T H ∧
  ∀ p H', QB.Ext T H H' → Tabs T H' → RdAt H' p dv dy → Q (.ref p) H'
theorem ok__law_told (X : TX K mg) (TB : LamX.TabB base mg X.lam_c X.lam_P) : FnOk P w K mg base CX0 8 X.d__law_told.a X.d__law_told.fd ["tags", "text"] (spTold (Tof X)) := by
  have nd := sc__law_told.nd
  refine X.d__law_told.F.ok sc__law_told (fun vs H Q E h => ?_) (fun cdv A outer s0 H vs Q E hr h => ?_)
  · obtain ⟨v, y, dv, dy, rfl, _⟩ := h
    rfl
  · obtain ⟨v, y, dv, dy, rfl, hv, hy, zv, zy, tb, k⟩ := h
    refine ⟨_, (pss_cons (ps_set (i := 2) nd rfl (Or.inl rfl) pe_non) (pss_cons (ps_set (i := 3) nd rfl (Or.inl rfl) pe_non) (pss_cons (QX.ps_try_keep (i := 4) (Wout := fun _ _ _ _ => False) rfl rfl rfl nd rfl rfl ⟨rfl, by decide, Or.inl X.me_TagError⟩ L2.takes0 (fun W pn xe tk po => (pss_one (ps_set (i := 3) nd rfl (Or.inl rfl) (pe_callS (okx_read_eater X TB) (hr.mono (by decide)) rfl X.d_read_eater.mg X.d_read_eater.F.kp X.d_read_eater.b (fun σ => passAt tk σ) (pa_cons (pv 0) (pa_cons (pv 1) pa_nil)))))) (fun a oe cls d pn hz hf => (pss_one (ps_set (i := 2) nd rfl (Or.inl rfl) (pv 4))))) (pss_cons (ps_if (pt_cmpR op_isN (pv 2) pe_non (nomark _)) (pss_one (ps_ret (pe_lst (pa_cons pe_str (pa_cons (pe_meth0 (pv 3) X.cl_Eater X.h_Eater_standings (ok_Eater_standings X) (hr.mono (by decide)) X.d_Eater_standings.b .nil pass0) pa_nil))))) pss_nil) (pss_cons (ps_if (PW.pt (pw_or (pt_val (pe_callB (QX.call_isXTK K) (by rfl) X.n_isinstance QB.bo_isinstance (pa_cons (pv 2) (pa_cons (pe_tup (pa_cons (pe_glob (v := .ref X.e_InvalidEater) rfl X.me_InvalidEater rfl) (pa_cons (pe_glob (v := .ref X.e_InvalidSubject) rfl X.me_InvalidSubject rfl) pa_nil))) pa_nil)))) (pw_or1 (pt_not (pt_val (pe_callB (QX.call_isXK K) (by rfl) X.n_isinstance QB.bo_isinstance (pa_cons (pv 2) (pa_cons (pe_bltn (v := .ty "ValueError") (by rfl) X.n_ValueError PyProof.Rows.Boot.«ValueError» rfl) pa_nil)))))))) (pss_one (ps_ret (pe_lst (pa_cons pe_str pa_nil)))) pss_nil) (pss_cons (ps_if (pt_val (pe_callB (QX.call_isXK K) (by rfl) X.n_isinstance QB.bo_isinstance (pa_cons (pv 2) (pa_cons (pe_glob (v := .ref X.e_InvalidTags) rfl X.me_InvalidTags rfl) pa_nil)))) (pss_one (ps_ret (pe_lst (pa_cons pe_str (pa_cons (QX.pe_fxK K (pv 2) rfl) pa_nil))))) pss_nil) (pss_one (ps_ret (pe_lst (pa_cons pe_str (pa_cons (pe_and (pe_callB (QX.call_isXK K) (by rfl) X.n_isinstance QB.bo_isinstance (pa_cons (pv 2) (pa_cons (pe_glob (v := .ref X.e_InvalidText) rfl X.me_InvalidText rfl) pa_nil))) (pe_one (QX.pe_fxK K (pv 2) rfl))) pa_nil))))))))))), ?_⟩
    try dsimp only [Cx.nox, Cx.wish, cxOf]
    unfold RdAt at k
    refine ⟨_, rfl, _, rfl, ?_⟩
    refine ⟨v, y, dv, dy, H, rfl, hv, hy, zv, zy, tb, .refl, fun iv e => ?_, fun tags to e => ?_⟩
    · rw [e] at k
      intro dd H1 s1 h1 n1
      refine ⟨true, X.ex_InvalidTags, fun q => Bool.noConfusion q, fun _ a ha => ⟨_, rfl, ?_⟩⟩
      have hk : (upd H1 a (QX.Kept (.ref X.e_InvalidTags) (some dd) a)) a = some (QX.Kept (.ref X.e_InvalidTags) (some dd) a) := upd_same
      have hx := (same_new (o := QX.Kept (.ref X.e_InvalidTags) (some dd) a) ha) _ _ h1
      have s2 := s1.trans (same_new (o := QX.Kept (.ref X.e_InvalidTags) (some dd) a) ha)
      refine ⟨_, rfl, rfl, _, rfl, ?_⟩
      rw [decide_eq_false (fun e => nomatch e)]
      refine iteF ?_
      refine ⟨_, rfl, by show 2 ≤ sizeLine; decide, fun tp htp => ?_⟩
      have s3 := same_new (o := .tup [V.ref X.e_InvalidEater, .ref X.e_InvalidSubject]) htp
      have hk3 := s3 _ _ hk
      have hx3 := s3 _ _ hx
      refine ⟨a, _, tp, some dd, _, [.ref X.e_InvalidEater, .ref X.e_InvalidSubject], false, rfl, hk3, .inr ⟨dd, _, rfl, hx3⟩, X.xt_InvalidTags.exc, upd_same, .cons (.own _) (.cons (.own _) .nil), ?_, false, rfl, ?_⟩
      · simp only [PySem.W.kitAny, X.ki_InvalidTags_InvalidEater, X.ki_InvalidTags_InvalidSubject]
      have s4 := s2.trans s3
      refine iteF ?_
      refine ⟨_, rfl, a, _, some dd, _, _, true, rfl, hk3, .inr ⟨dd, _, rfl, hx3⟩, X.xt_InvalidTags.exc, .ty "ValueError", X.kv_InvalidTags, true, rfl, ?_⟩
      refine iteF ?_
      refine ⟨_, rfl, a, _, some dd, _, _, true, rfl, hk3, .inr ⟨dd, _, rfl, hx3⟩, X.xt_InvalidTags.exc, .own _, X.ki_InvalidTags_InvalidTags, true, rfl, ?_⟩
      refine iteT ?_
      refine ⟨_, rfl, a, _, dd, _, iv, rfl, hk3, X.xt_InvalidTags.xf, X.xt_InvalidTags.noF, hx3, look1 _ _, by show 2 ≤ sizeLine; decide, fun p hp => ?_⟩
      have s5 := Same.new s4 (o := .lst [V.str "tags", iv]) hp
      exact k p _ (.of s5) (tb.ext s5) upd_same
    · subst e
      have ed : tagsDue (.list (tags.map .str)) = none := due_none to
      rw [ed, tagsIn_strs] at k
      dsimp only at k
      cases hp : parseD tags dy with
      | line iv =>
        rw [hp] at k
        have k : ∀ p H', QB.Ext (Tof X) H H' → Tabs (Tof X) H' → H' p = some (.lst [.str "line", iv]) → Q (.ref p) H' := k
        intro dd H1 s1 h1 n1
        refine ⟨true, X.ex_InvalidText, fun q => Bool.noConfusion q, fun _ a ha => ⟨_, rfl, ?_⟩⟩
        have hk : (upd H1 a (QX.Kept (.ref X.e_InvalidText) (some dd) a)) a = some (QX.Kept (.ref X.e_InvalidText) (some dd) a) := upd_same
        have hx := (same_new (o := QX.Kept (.ref X.e_InvalidText) (some dd) a) ha) _ _ h1
        have s2 := s1.trans (same_new (o := QX.Kept (.ref X.e_InvalidText) (some dd) a) ha)
        refine ⟨_, rfl, rfl, _, rfl, ?_⟩
        rw [decide_eq_false (fun e => nomatch e)]
        refine iteF ?_
        refine ⟨_, rfl, by show 2 ≤ sizeLine; decide, fun tp htp => ?_⟩
        have s3 := same_new (o := .tup [V.ref X.e_InvalidEater, .ref X.e_InvalidSubject]) htp
        have hk3 := s3 _ _ hk
        have hx3 := s3 _ _ hx
        refine ⟨a, _, tp, some dd, _, [.ref X.e_InvalidEater, .ref X.e_InvalidSubject], false, rfl, hk3, .inr ⟨dd, _, rfl, hx3⟩, X.xt_InvalidText.exc, upd_same, .cons (.own _) (.cons (.own _) .nil), ?_, false, rfl, ?_⟩
        · simp only [PySem.W.kitAny, X.ki_InvalidText_InvalidEater, X.ki_InvalidText_InvalidSubject]
        have s4 := s2.trans s3
        refine iteF ?_
        refine ⟨_, rfl, a, _, some dd, _, _, true, rfl, hk3, .inr ⟨dd, _, rfl, hx3⟩, X.xt_InvalidText.exc, .ty "ValueError", X.kv_InvalidText, true, rfl, ?_⟩
        refine iteF ?_
        refine ⟨_, rfl, a, _, some dd, _, _, false, rfl, hk3, .inr ⟨dd, _, rfl, hx3⟩, X.xt_InvalidText.exc, .own _, X.ki_InvalidText_InvalidTags, false, rfl, ?_⟩
        refine iteF ?_
        refine ⟨_, rfl, a, _, some dd, _, _, true, rfl, hk3, .inr ⟨dd, _, rfl, hx3⟩, X.xt_InvalidText.exc, .own _, X.ki_InvalidText_InvalidText, ?_⟩
        refine ⟨true, rfl, ?_⟩
        refine ⟨_, rfl, a, _, dd, _, iv, rfl, hk3, X.xt_InvalidText.xf, X.xt_InvalidText.noF, hx3, look1 _ _, by show 2 ≤ sizeLine; decide, fun p hp => ?_⟩
        have s5 := Same.new s4 (o := .lst [V.str "line", iv]) hp
        exact k p _ (.of s5) (tb.ext s5) upd_same
      | eater F =>
        rw [hp] at k
        have k : ∀ p H', QB.Ext (Tof X) H H' → Tabs (Tof X) H' → (∃ b, H' p = some (.lst [.str "eater", .ref b]) ∧ FormAt H' b (least tags F)) → Q (.ref p) H' := k
        intro e H1 e1 t1 he
        have fo := parseD_ok (by omega) hp
        have hll := least_len fo.good
        have := fo.len
        refine ⟨_, rfl, rfl, _, rfl, ?_⟩
        rw [decide_eq_true rfl]
        refine iteT ?_
        obtain ⟨dx, ea, eb, i1, i2, i3⟩ := id he
        refine ⟨_, rfl, e, dx, _, rfl, i1, rfl, ?_⟩
        refine ⟨e, tags, _, rfl, he, by omega, fun p L H2 s2 n2 => ?_⟩
        refine ⟨by show 2 ≤ sizeLine; decide, fun q hq => ?_⟩
        have s3 := same_new (o := .lst [V.str "eater", .ref p]) hq
        exact k _ _ (e1.trans (.of (s2.trans s3))) (t1.ext (s2.trans s3)) ⟨p, upd_same, Same.form s3 n2.form⟩
end
end Law
end

section
set_option Elab.async false
set_option linter.all false
set_option maxRecDepth 100000
set_option maxHeartbeats 4000000
namespace Law
open PySem PySem.Spec PyProof.Rows L2 LamX QB QM QV
section
variable {P : Program} {w : World} {K : PySem.W.Frag} {mg : Str → Option Value} {base : Heap}
/-- the law's own reading of a word -/
theorem ok__law_word_of (X : TX K mg) : FnOk P w K mg base CX0 3 X.d__law_word_of.a X.d__law_word_of.fd ["tags", "text"]
    (fun vs H Q _ => ∃ (a : Addr) (tags : Word) (t : Str), vs = [.ref a, .str t] ∧ WordAt H a tags ∧ t.length ≤ 9000 ∧
      ∀ (v : V) (H' : Hp), Same H H' → ((v = .non ∧ rd tags 8 t = none) ∨ ∃ (p : Addr) (wd : Word), v = .ref p ∧ H p = none ∧ WordAt H' p wd ∧ rd tags 8 t = some wd) → Q v H') := by
  have nd := sc__law_word_of.nd
  refine X.d__law_word_of.F.ok sc__law_word_of (fun vs H Q E h => ?_) (fun cdv A outer s H vs Q E hr h => ?_)
  · obtain ⟨a, tags, t, rfl, _⟩ := h
    rfl
  · obtain ⟨a, tags, t, rfl, ha, hz, k⟩ := h
    refine ⟨_, (pss_cons (ps_if (pt_cmpR op_eq (pv 1) pe_str (nomark _)) (pss_one (ps_ret (pe_lst pa_nil))) pss_nil) (pss_cons (ps_set (i := 2) nd rfl (Or.inl rfl) (pe_split (pv 1) pe_str)) (pss_cons (ps_if (PW.pt (pw_or (pt_cmpR op_gt (pe_callB (QB.call_lenK K) (by rfl) X.n_len PySem.boot_len (pa_cons (pv 2) pa_nil)) pe_int (nomark _)) (pw_or1 (pt_cmpR (QV.op_neNil hr.units) (pe_lc (own := [("word", 3)]) (g := gName 3) rfl nd (QB.pi_listK K (pv 2)) (blkOk_by (N := ["tags", "text", "words", "word"]) (sc := defScope s__law_word_of) (by decide +kernel)) (fun _ _ _ _ _ => pg_name (i := 3) nd rfl (Or.inl rfl)) (fun _ _ _ _ _ => pts_one (pt_cmpR (QB.op_notInK K) (pv 3) (pv 0) rfl)) (fun _ _ _ _ _ => (pv 3))) (pe_lst pa_nil) (nomark _))))) (pss_one (ps_ret pe_non)) pss_nil) (pss_one (ps_ret (pv 2)))))), ?_⟩
    try dsimp only [Cx.nox, Cx.wish, cxOf]
    unfold rd at k
    refine ⟨_, rfl, rfl, _, rfl, ?_⟩
    by_cases hd : t = Str.ofString "-"
    · subst hd
      rw [decide_eq_true rfl]
      refine iteT ?_
      refine ⟨by show 0 ≤ sizeLine; decide, fun p hp => ?_⟩
      exact k _ _ (same_new hp) (.inr ⟨p, [], rfl, hp, upd_same, if_pos rfl⟩)
    rw [decide_eq_false (fun e => hd (V.str.inj e))]
    refine iteF ?_
    have hs := split_le t " "
    refine ⟨_, rfl, ⟨_, rfl⟩, t, _, rfl, rfl, by decide, sz_le (by omega), fun q hq => ?_⟩
    have e1 : (if t = Str.ofString "-" then some [] else if (Txt.split t " ").length ≤ 8 ∧ ∀ u ∈ Txt.split t " ", u ∈ tags then some (Txt.split t " ") else none) = if (Txt.split t " ").length ≤ 8 ∧ ∀ u ∈ Txt.split t " ", u ∈ tags then some (Txt.split t " ") else none := if_neg hd
    have k : ∀ (v : V) (H' : Hp), Same H H' → ((v = .non ∧ (if (Txt.split t " ").length ≤ 8 ∧ ∀ u ∈ Txt.split t " ", u ∈ tags then some (Txt.split t " ") else none) = none) ∨ ∃ (p : Addr) (wd : Word), v = .ref p ∧ H p = none ∧ WordAt H' p wd ∧ (if (Txt.split t " ").length ≤ 8 ∧ ∀ u ∈ Txt.split t " ", u ∈ tags then some (Txt.split t " ") else none) = some wd) → Q v H' := fun v H' s' h => k v H' s' (by
      have e1 : (if t = "-" then some [] else if (Txt.split t " ").length ≤ 8 ∧ ∀ u ∈ Txt.split t " ", u ∈ tags then some (Txt.split t " ") else none) = _ := e1
      rw [e1]
      exact h)
    clear e1
    have s1 := same_new (o := .lst ((Txt.split t " ").map V.str)) hq
    have k1 : WordAt (upd H q (.lst ((Txt.split t " ").map V.str))) q (Txt.split t " ") := upd_same
    have hlw : (Txt.split t (Str.ofString " ")).length ≤ 10002 := by
      have hs : (Txt.split t (Str.ofString " ")).length ≤ t.length + 2 := hs
      omega
    change tSeq _ _ _ _ (upd H q (.lst ((Txt.split t " ").map V.str)))
    generalize upd H q (.lst ((Txt.split t " ").map V.str)) = H1 at s1 k1 ⊢
    have hlw : (Txt.split t " ").length ≤ 10002 := hlw
    generalize Txt.split t " " = wd at k k1 hlw
    refine ⟨_, rfl, _, _, rfl, .inl (SqL.of k1), _, _, rfl, rfl, _, rfl, ?_⟩
    rw [vS_len]
    by_cases hl : wd.length ≤ 8
    case neg =>
      rw [decide_eq_true (by omega)]
      refine iteT ?_
      exact k _ _ s1 (.inl ⟨rfl, if_neg fun z => hl z.1⟩)
    rw [decide_eq_false (by omega)]
    refine iteF ?_
    refine ⟨_, rfl, _, rfl, ⟨_, SqL.of k1⟩, fun D hD => ?_⟩
    refine lc_filter (walk_listW (K := K) (a := q) (w := wd)) hD (by omega) (fun H2 s2 => Same.word s2 k1) (fun i => .str ((wd[i]?).getD "")) (fun i => !decide ((wd[i]?).getD "" ∈ tags)) ?_ ?_
    · rintro i x H2 H3 kk N hi s2 ⟨y, hy, rfl, rfl⟩ hk1 hk2
      rw [hy] at hk1 hk2
      have hk1 : (!decide (y ∈ tags)) = true → ∀ H4, Same H3 H4 → kk (.str y) H4 := hk1
      have hk2 : (!decide (y ∈ tags)) = false → ∀ H4, Same H3 H4 → N H4 := hk2
      refine ⟨rfl, _, rfl, _, rfl, a, vS tags, rfl, .inl (SqL.of (Same.word (s1.trans s2) ha)), rfl, vS_flat, _, rfl, ?_⟩
      rw [if_pos rfl, inV_word]
      by_cases hy2 : y ∈ tags
      · rw [decide_eq_true hy2] at hk2 ⊢
        exact iteF (hk2 rfl _ (Same.refl _))
      · rw [decide_eq_false hy2] at hk1 ⊢
        exact iteT ⟨_, rfl, hk1 rfl _ (Same.refl _)⟩
    · intro H2 s2 e
      rw [filter_range (fun t => !decide (t ∈ tags)) (fun t => .str t) _ _ wd (fun i x hx => by rw [hx]; exact ⟨rfl, rfl⟩)] at e
      refine ⟨by show 0 ≤ sizeLine; decide, fun z hz0 => ?_⟩
      have s3 := same_new (o := .lst ([] : List V)) hz0
      refine ⟨D, z, _, rfl, rfl, s3 _ _ e, upd_same, ?_⟩
      have s23 := s2.trans s3
      generalize upd H2 z (.lst []) = H3 at s23 ⊢
      rw [if_pos rfl]
      refine ⟨_, rfl, ?_⟩
      by_cases hin : ∀ u ∈ wd, u ∈ tags
      · have e0 : (wd.filter fun t => !decide (t ∈ tags)) = [] := List.filter_eq_nil_iff.mpr fun u hu => by rw [decide_eq_true (hin u hu)]; decide
        rw [e0]
        refine iteF ?_
        exact ⟨_, rfl, k _ _ (s1.trans s23) (.inr ⟨q, wd, rfl, hq, Same.word s23 k1, if_pos ⟨hl, hin⟩⟩)⟩
      · have e0 : ((wd.filter fun t => !decide (t ∈ tags)).map fun t => V.str t).isEmpty = false := by
          cases q2 : (wd.filter fun t => !decide (t ∈ tags)) with
          | nil =>
            refine absurd (fun u hu => ?_) hin
            have := List.filter_eq_nil_iff.mp q2 u hu
            simpa using this
          | cons _ _ => rfl
        rw [e0]
        refine iteT ?_
        exact k _ _ (s1.trans s23) (.inl ⟨rfl, if_neg fun z => hin z.2⟩)
end
end Law
end

section
set_option Elab.async false
set_option linter.all false
set_option maxRecDepth 100000
set_option maxHeartbeats 4000000
namespace Law
open PySem PySem.Spec PyProof.Rows L2 LamX QB QM QV
theorem empty_filter {α : Type} (q : α → Bool) (f : α → V) : ∀ l : List α, ((l.filter fun x => !q x).map f).isEmpty = l.all q
  | [] => rfl
  | x :: l => by
    rw [List.all_cons, List.filter_cons]
    cases h : q x with
    | true =>
      rw [show (!true) = false from rfl, if_neg Bool.false_ne_true, empty_filter q f l, Bool.true_and]
    | false => rfl
section
variable {P : Program} {w : World} {K : PySem.W.Frag} {mg : Str → Option Value} {base : Heap}
def numV (t : Str) : V := if numeral t = true then .int ((numOf t : Nat) : Int) else .non
theorem ok__law_number (X : TX K mg) : FnOk P w K mg base CX0 3 X.d__law_number.a X.d__law_number.fd ["text"]
    (fun vs H Q _ => ∃ t : Str, vs = [.str t] ∧ t.length ≤ 640 ∧ ∀ H', Same H H' → Q (numV t) H') := by
  have nd := sc__law_number.nd
  refine X.d__law_number.F.ok sc__law_number (fun vs H Q E h => ?_) (fun cdv A outer s H vs Q E hr h => ?_)
  · obtain ⟨t, rfl, _⟩ := h
    rfl
  · obtain ⟨t, rfl, hz, k⟩ := h
    refine ⟨_, (pss_cons (ps_if (PW.pt (pw_or (pt_cmpR op_eq (pv 0) pe_str (nomark _)) (pw_or1 (pt_cmpR (QV.op_neNil hr.units) (pe_lc (own := [("sign", 1)]) (g := gName 1) rfl nd (pi_str (pv 0)) (blkOk_by (N := ["text", "sign"]) (sc := defScope s__law_number) (by decide +kernel)) (fun _ _ _ _ _ => pg_name (i := 1) nd rfl (Or.inl rfl)) (fun _ _ _ _ _ => pts_one (pt_cmpR op_notIn_sign (pv 1) pe_str rfl)) (fun _ _ _ _ _ => (pv 1))) (pe_lst pa_nil) (nomark _))))) (pss_one (ps_ret pe_non)) pss_nil) (pss_cons (ps_if (PW.pt (pw_and (pt_cmpR op_eq (pe_item_str (pv 0) pe_int (fun _ _ => rfl)) pe_str (nomark _)) (pw_and1 (pt_cmpR op_ne (pv 0) pe_str (nomark _))))) (pss_one (ps_ret pe_non)) pss_nil) (pss_one (ps_ret (pe_callTy call_int_str (by rfl) X.n_int QB.bo_int (pa_cons (pv 0) pa_nil)))))), ?_⟩
    try dsimp only [Cx.nox, Cx.wish, cxOf]
    have e0 : t.cps.size = t.cps.toList.length := rfl
    have e1 : t.cps.size = t.length := rfl
    have no : numeral t = false → ∀ H', Same H H' → Q .non H' := fun hn H' s' => by
      have := k H' s'
      unfold numV at this
      rw [hn, if_neg Bool.false_ne_true] at this
      exact this
    have yes : numeral t = true → ∀ H', Same H H' → Q (.int ((numOf t : Nat) : Int)) H' := fun hn H' s' => by
      have := k H' s'
      unfold numV at this
      rw [if_pos hn] at this
      exact this
    have ni : numeral t = true → intText? t = some ((numOf t : Nat) : Int) := fun hn => numeral_int hn (by omega)
    refine ⟨_, rfl, rfl, _, rfl, ?_⟩
    cases hl : t.cps.toList with
    | nil =>
      have ht : t = Str.ofString "" := by
        obtain ⟨c⟩ := t
        have e : c = #[] := by
          have : c.toList = [] := hl
          exact Array.toList_eq_nil_iff.mp this
        subst e
        rfl
      have hn : numeral t = false := by
        unfold numeral
        rw [hl]
      rw [decide_eq_true (congrArg V.str ht)]
      exact iteT (no hn H (Same.refl H))
    | cons c r =>
      rw [hl] at e0
      have nm : numeral t = ((c :: r).all (fun c => decide (c ∈ digits.cps.toList)) && (decide (t = Str.ofString "0") || !decide (c = 48))) := by
        unfold numeral
        rw [hl]
      rw [decide_eq_false (fun z => by
        have z := V.str.inj z
        rw [z] at hl
        cases hl)]
      refine iteF ?_
      refine ⟨_, rfl, t, rfl, fun D hD => ?_⟩
      refine lc_filter walk_str hD (by rw [e1]; omega) (fun _ _ => True.intro) (fun i => ((t.cps.toList[i]?).map fun c => V.str ⟨#[c]⟩).getD .non) (fun i => ((t.cps.toList[i]?).map fun c => !decide (c ∈ digits.cps.toList)).getD false) ?_ ?_
      · rintro i x H1 H2 kk N hi s1 ⟨rfl, c, hc, rfl⟩ hk1 hk2
        have hc2 : t.cps.toList[i]? = some c := by simpa using hc
        rw [hc2] at hk1 hk2
        have hk1 : (!decide (c ∈ digits.cps.toList)) = true → ∀ H4, Same H2 H4 → kk (.str ⟨#[c]⟩) H4 := hk1
        have hk2 : (!decide (c ∈ digits.cps.toList)) = false → ∀ H4, Same H2 H4 → N H4 := hk2
        refine ⟨rfl, _, rfl, c, digits, rfl, rfl, _, rfl, ?_⟩
        cases q : (!decide (c ∈ digits.cps.toList)) with
        | true => exact iteT ⟨_, rfl, hk1 q _ (Same.refl _)⟩
        | false => exact iteF (hk2 q _ (Same.refl _))
      · intro H1 s1 e
        rw [show t.cps.size = t.cps.toList.length from rfl, filter_range (fun c => !decide (c ∈ digits.cps.toList)) (fun c => .str ⟨#[c]⟩) _ _ t.cps.toList (fun i x hx => by rw [hx]; exact ⟨rfl, rfl⟩)] at e
        refine ⟨by show 0 ≤ sizeLine; decide, fun z hz0 => ?_⟩
        have s3 := same_new (o := .lst ([] : List V)) hz0
        refine ⟨D, z, _, rfl, rfl, s3 _ _ e, upd_same, ?_⟩
        have s13 := s1.trans s3
        generalize upd H1 z (.lst []) = H3 at s13 ⊢
        rw [if_pos rfl, empty_filter (fun c => decide (c ∈ digits.cps.toList)), hl]
        refine ⟨_, rfl, ?_⟩
        cases q : (c :: r).all (fun c => decide (c ∈ digits.cps.toList)) with
        | false =>
          rw [q] at nm
          exact iteT (no nm H3 s13)
        | true =>
        rw [q] at nm
        refine iteF ?_
        have e3 : decide (V.str ⟨#[c]⟩ = V.str (Str.ofString "0")) = decide (c = 48) := by
          refine decide_eq_decide.mpr ⟨fun z => ?_, fun z => by rw [z]; rfl⟩
          have z : (⟨#[c]⟩ : Str) = ⟨#[48]⟩ := V.str.inj z
          injection z with z
          have := congrArg Array.toList z
          simpa using this
        refine ⟨_, rfl, t, 0, c, rfl, rfl, by decide, by decide, by rw [← e1, e0, List.length_cons]; omega, ?_, rfl, _, rfl, ?_⟩
        · rw [← Array.getElem?_toList, hl]
          rfl
        rw [e3]
        have nm : numeral t = (decide (t = Str.ofString "0") || !decide (c = 48)) := nm
        by_cases h48 : c = 48
        · rw [decide_eq_true h48] at nm ⊢
          refine iteT ?_
          refine ⟨_, rfl, rfl, _, rfl, ?_⟩
          by_cases h0 : t = Str.ofString "0"
          · rw [decide_eq_true h0] at nm
            rw [decide_eq_true (congrArg V.str h0)]
            refine iteF ?_
            exact ⟨_, rfl, t, _, rfl, ni nm, hz, yes nm H3 s13⟩
          · rw [decide_eq_false h0] at nm
            rw [decide_eq_false (fun z => h0 (V.str.inj z))]
            exact iteT (no nm H3 s13)
        · rw [decide_eq_false h48] at nm ⊢
          have nm : numeral t = true := by rw [nm]; exact Bool.or_true _
          refine iteF (iteF ?_)
          exact ⟨_, rfl, t, _, rfl, ni nm, hz, yes nm H3 s13⟩
end
end Law
end

section
set_option Elab.async false
set_option linter.all false
set_option maxRecDepth 100000
set_option maxHeartbeats 4000000
namespace Law
open PySem PySem.Spec PyProof.Rows L2 LamX QB QM QV
open TL in
theorem joinE_tl : ∀ ps : List Str, tl (Txt.join (Str.ofString "") ps) = (ps.map tl).flatten
  | [] => by
    rw [join_eq, tl_join]
    rfl
  | [a] => by
    rw [join_eq, tl_join]
    show tl a = tl a ++ []
    rw [List.append_nil]
  | a :: b :: r => by
    have ih := joinE_tl (b :: r)
    rw [join_eq, tl_join] at ih ⊢
    show tl a ++ (tl (Str.ofString "") ++ joinL (tl (Str.ofString "")) ((b :: r).map tl)) = tl a ++ ((b :: r).map tl).flatten
    rw [← ih]
    rfl
open TL in
theorem joinE_snoc (ps : List Str) (x : Str) : Txt.join (Str.ofString "") (ps ++ [x]) = Txt.join (Str.ofString "") ps ++ x := by
  refine ext_tl ?_
  rw [joinE_tl, tl_append, joinE_tl, List.map_append, List.flatten_append]
  show _ ++ (tl x ++ []) = _
  rw [List.append_nil]
theorem toldL_snoc {tags : Word} {ws : Ways} {j : Nat} {t : Str} {w : Option Nat} (h1 : tags[j]? = some t) (h2 : ws[j]? = some w) : toldL (tags.take (j + 1)) (ws.take (j + 1)) = toldL (tags.take j) (ws.take j) ++ (w.map fun n => wayT t n).toList := by
  unfold toldL
  have e : ∀ k, (tags.take k).zip (ws.take k) = (tags.zip ws).take k := fun k => by
    unfold List.zip
    rw [List.take_zipWith]
  rw [e, e, List.take_succ, List.filter_append, List.map_append]
  have : (tags.zip ws)[j]? = some (t, w) := by
    rw [List.getElem?_zip_eq_some]
    exact ⟨h1, h2⟩
  rw [this]
  cases w <;> rfl
open TL in
theorem add_none (a : Str) : a ++ Txt.join (Str.ofString "") [] = a := by
  refine ext_tl ?_
  rw [tl_append, joinE_tl]
  exact List.append_nil _
open TL in
theorem add_assoc3 (a b c : Str) : a ++ b ++ c = a ++ (b ++ c) := by
  refine ext_tl ?_
  rw [tl_append, tl_append, tl_append, tl_append, List.append_assoc]
open TL in
theorem line_add (L t : Str) (n : Nat) : L ++ Str.ofString " " ++ t ++ Str.ofString "=" ++ numS n = L ++ wayT t n := by
  refine ext_tl ?_
  unfold wayT
  simp only [tl_append, List.append_assoc]
  rfl
section
variable {P : Program} {w : World} {K : PySem.W.Frag} {mg : Str → Option Value} {base : Heap}
theorem ok__law_written (X : TX K mg) : FnOk P w K mg base CX0 3 X.d__law_written.a X.d__law_written.fd ["tags", "standings"]
    (fun vs H Q _ => ∃ (a b : Addr) (tags : Word) (G : Form), vs = [.ref a, .ref b] ∧ WordAt H a tags ∧ FormAt H b G ∧ TagsOk tags ∧ FormT tags G ∧ ∀ H', Same H H' → Q (.str (eaterT tags G)) H') := by
  have nd := sc__law_written.nd
  refine X.d__law_written.F.ok sc__law_written (fun vs H Q E h => ?_) (fun cdv A outer s0 H vs Q E hr h => ?_)
  · obtain ⟨a, b, tags, G, rfl, _⟩ := h
    rfl
  · obtain ⟨a, b, tags, G, rfl, ha, hb, to, ft, k⟩ := h
    refine ⟨_, (pss_cons (ps_set (i := 2) nd rfl (Or.inl rfl) (pe_lst pa_nil)) (pss_cons (ps_for PassesOwn.never rfl (QB.pi_listK K (pv 1)) (pg_tup (by rfl) (pgs_cons (pg_name (i := 3) nd rfl (Or.inl rfl)) (pgs_cons (pg_name (i := 4) nd rfl (Or.inl rfl)) (pgs_nil)))) (pss_cons (ps_set (i := 5) nd rfl (Or.inl rfl) (pe_op op_add_str (pe_ix (QB.ix_listK K) (pe_lst (pa_cons (pe_join pe_str (pv 3)) (pa_cons pe_str pa_nil))) (pe_callTy call_int1 (by rfl) X.n_int QB.bo_int (pa_cons (pe_cmpR (QV.op_eqNil hr.units) (pv 3) (pe_lst pa_nil) (nomark _)) pa_nil)) (fun _ _ => rfl)) pe_str)) (pss_cons (ps_for PassesOwn.never rfl (QB.pi_zipK K (by rfl) X.n_zip (pa_cons (pv 0) (pa_cons (pv 4) pa_nil))) (pg_tup (by rfl) (pgs_cons (pg_name (i := 6) nd rfl (Or.inl rfl)) (pgs_cons (pg_name (i := 7) nd rfl (Or.inl rfl)) (pgs_nil)))) (pss_one (ps_if (pt_cmpR op_notN (pv 7) pe_non (nomark _)) (pss_one (ps_set (i := 5) nd rfl (Or.inl rfl) (pe_op op_add_str (pe_op op_add_str (pe_op op_add_str (pe_op op_add_str (pv 5) pe_str) (pv 6)) pe_str) (pe_callTy call_str_int (by rfl) X.n_str QB.bo_str (pa_cons (pv 7) pa_nil))))) pss_nil))) (pss_one (ps_expr (QB.pe_bmK K PySem.F.plainAttrs_list PySem.F.slot_list_append PySem.F.type_list_append mt_append (pv 2) (pa_cons (pv 5) pa_nil))))))) (pss_one (ps_ret (pe_join pe_str (pv 2)))))), ?_⟩
    try dsimp only [Cx.nox, Cx.wish, cxOf]
    have hG := ft.len
    have htl := to.len
    refine ⟨by show 0 ≤ sizeLine; decide, fun D hD => ?_⟩
    have s1 := same_new (o := .lst ([] : List V)) hD
    have hD1 : (upd H D (.lst [])) D = some (.lst (([] : List Str).map V.str)) := upd_same
    have hDN : H D = none := hD
    generalize upd H D (.lst []) = H1 at s1 hD1 ⊢
    obtain ⟨vsF, hv, hvl⟩ := FormAt.lst hb
    refine ⟨_, rfl, _, rfl, ⟨_, SqL.of (s1 _ _ hv)⟩, ?_⟩
    refine for_it (walk_listF (K := K) (p := b) (F := G)) (fun i σ H' => ∃ v3 v4 v5 v6 v7, σ = [some (.ref a), some (.ref b), some (.ref D), v3, v4, v5, v6, v7] ∧ Same H H' ∧ H' D = some (.lst (((G.take i).map (lineT tags)).map V.str)))
      ⟨_, _, _, _, _, rfl, s1, hD1⟩ (fun i σ H' _ ⟨_, _, _, _, _, _, z, _⟩ => Same.form z hb) ?_ ?_
    · rintro i x σ H3 H4 hi ⟨v3, v4, v5, v6, v7, rfl, s3, d3⟩ ⟨s, t, p1, p2, hs, rfl, rfl, ht, hw, hy⟩
      have hm := List.mem_of_getElem? hs
      obtain ⟨w8, wsub⟩ := ft.words s hm
      obtain ⟨yl, y100⟩ := ft.ways s hm
      refine ⟨t, _, rfl, SqT.of ht, rfl, _, _, rfl, _, _, rfl, rfl, ?_⟩
      have jl := join_len (Str.ofString " ") s.1
      have js : (s.1.map (·.length)).sum ≤ s.1.length * 8 := sum_le (fun t : Str => t.length) 8 fun t ht => (to.names t (wsub t ht)).len
      have wl := writ_len w8 fun t ht => (to.names t (wsub t ht)).len
      refine ⟨⟨_, rfl⟩, _, rfl, _, p1, s.1, rfl, rfl, .inl (SqL.of hw), by show _ + _ * 1 ≤ 16777216; omega, by show 2 ≤ sizeLine; decide, fun q hq => ?_⟩
      have s4 := same_new (o := .lst [V.str (Txt.join (Str.ofString " ") s.1), V.str (Str.ofString "-")]) hq
      have kq : (upd H4 q (.lst [V.str (Txt.join (Str.ofString " ") s.1), V.str (Str.ofString "-")])) q = some (.lst [V.str (Txt.join (Str.ofString " ") s.1), V.str (Str.ofString "-")]) := upd_same
      have hw5 := Same.word s4 hw
      have hy5 := Same.ways s4 hy
      have s5 := s3.trans s4
      have d5 := s4 _ _ d3
      generalize upd H4 q (.lst [V.str (Txt.join (Str.ofString " ") s.1), V.str (Str.ofString "-")]) = H5 at s5 kq hw5 hy5 d5 ⊢
      clear s4 hq
      refine ⟨_, rfl, by show 0 ≤ sizeLine; decide, fun z hz0 => ?_⟩
      have s6 := same_new (o := .lst ([] : List V)) hz0
      refine ⟨p1, z, _, rfl, rfl, s6 _ _ hw5, upd_same, ?_⟩
      rw [if_neg Bool.false_ne_true]
      have kq6 := s6 _ _ kq
      have hy6 := Same.ways s6 hy5
      have d6 := s6 _ _ d5
      have s56 := s5.trans s6
      generalize upd H5 z (.lst []) = H6 at kq6 hy6 d6 s56 ⊢
      refine .inr ⟨_, rfl, ?_⟩
      have pickW : atI [V.str (Txt.join (Str.ofString " ") s.1), V.str (Str.ofString "-")] (if (vS s.1).isEmpty = true then 1 else 0) = some (.str (writ s.1)) := by
        cases hwd : s.1 with
        | nil => rfl
        | cons u r => rfl
      refine ⟨q, _, _, _, rfl, rfl, SqL.of kq6, pickW, ?_⟩
      refine ⟨_, _, rfl, rfl, sz100 (by show _ + 1 ≤ 1000; omega), ?_⟩
      refine ⟨_, rfl, _, rfl, a, p2, _, _, rfl, SqL.of (Same.word s56 ha), SqL.of hy6, ?_⟩
      refine for_it (walk_zip (K := K) (a := a) (b := p2) (xs := vS tags) (ys := vWs s.2) (n := tags.length) (by rw [vS_len, vWs_len, yl, Nat.min_self])) (fun j σ H' => ∃ (L : Str) (v6 v7 : Option V), σ = [some (.ref a), some (.ref b), some (.ref D), some (.ref p1), some (.ref p2), some (.str L), v6, v7] ∧ Same H6 H' ∧ L = writ s.1 ++ Str.ofString ":" ++ Txt.join (Str.ofString "") (toldL (tags.take j) (s.2.take j)) ∧ L.length ≤ 101 + 12 * j)
        ⟨_, _, _, rfl, .refl _, ?_, ?_⟩ (fun j σ H' _ ⟨_, _, _, _, z, _⟩ => ⟨SqL.of (Same.word z (Same.word s56 ha)), SqL.of (Same.ways z hy6)⟩) ?_ ?_
      · exact (add_none _).symm
      · rw [lenZ_add]
        show _ + 1 ≤ 101 + 12 * 0
        omega
      · rintro j x σ H7 H8 hj ⟨L, v6, v7, rfl, s7, eL, hL⟩ ⟨tp, x1, x2, rfl, ntp, rfl, e1, e2⟩
        have g1 : tags[j]? = some tags[j] := List.getElem?_eq_getElem hj
        have g2 : s.2[j]? = some (s.2[j]'(by omega)) := List.getElem?_eq_getElem (by omega)
        have e1 : (vS tags)[j]? = some x1 := e1
        have e2 : (vWs s.2)[j]? = some x2 := e2
        rw [vS_get g1] at e1
        rw [vWs_get g2] at e2
        cases e1
        cases e2
        have mw := List.mem_of_getElem? g2
        have tl8 := (to.names _ (List.getElem_mem hj)).len
        have sn := toldL_snoc g1 g2
        generalize tags[j] = tg at tl8 sn
        generalize s.2[j]'(by omega) = wy at mw sn
        have s8 := Same.new s7 (o := .tup [.str tg, vW wy]) ntp
        refine ⟨tp, _, rfl, SqT.of upd_same, rfl, _, _, rfl, _, _, rfl, rfl, ?_⟩
        refine ⟨_, rfl, rfl, _, rfl, ?_⟩
        rw [vW_is]
        cases wy with
        | none =>
          refine iteF ⟨L, _, _, rfl, s8, ?_, by omega⟩
          have sn : toldL (tags.take (j + 1)) (s.2.take (j + 1)) = toldL (tags.take j) (s.2.take j) := sn.trans (List.append_nil _)
          rw [sn]
          exact eL
        | some m =>
          have hn := numS_len (y100 m mw)
          have hn' : (Str.ofString (toString (m : Int))).length ≤ 2 := hn
          have hj6 : j < 6 := by omega
          have y1 := y100 m mw
          have all : ∀ i : Fin 100, ((i.val : Nat) : Int).natAbs.log2 < 1920 := by decide +kernel
          refine iteT ?_
          refine ⟨_, rfl, _, _, rfl, rfl, sz100 (by show _ + 1 ≤ 1000; omega), ?_⟩
          refine ⟨_, rfl, _, _, rfl, rfl, sz100 (by rw [lenZ_add]; show _ + 1 + _ ≤ 1000; omega), ?_⟩
          refine ⟨_, _, rfl, rfl, sz100 (by rw [lenZ_add, lenZ_add]; show _ + 1 + _ + 1 ≤ 1000; omega), ?_⟩
          refine ⟨_, rfl, _, rfl, all ⟨m, y1⟩, ?_⟩
          refine ⟨_, _, rfl, rfl, sz100 (by rw [lenZ_add, lenZ_add, lenZ_add]; show _ + 1 + _ + 1 + _ ≤ 1000; omega), ?_⟩
          refine ⟨L ++ wayT tg m, some (.str tg), some (.int (m : Int)), ?_, s8, ?_, ?_⟩
          · rw [← line_add]
            rfl
          · have sn : toldL (tags.take (j + 1)) (s.2.take (j + 1)) = toldL (tags.take j) (s.2.take j) ++ [wayT tg m] := sn
            rw [sn, joinE_snoc, eL]
            exact add_assoc3 _ _ _
          · rw [lenZ_add]
            have := wayT_len y1 tl8
            omega
      · rintro σ H7 ⟨L, v6, v7, rfl, s7, eL, hL⟩
        rw [List.take_length, show s.2.take tags.length = s.2 by rw [← yl, List.take_length]] at eL
        have eL : L = lineT tags s := eL
        have d7 := s7 _ _ d6
        refine ⟨_, rfl, .inl ⟨rfl, _, SqL.of d7⟩, ?_⟩
        refine ⟨_, rfl, D, _, _, rfl, rfl, d7, by rw [List.length_map, List.length_map, List.length_take]; exact sz_lt (by omega), ?_⟩
        refine ⟨_, _, _, _, _, rfl, Same.mut (s56.trans s7) hDN, ?_⟩
        rw [upd_same, eL]
        have et : G.take (i + 1) = G.take i ++ [s] := by rw [List.take_succ, hs]; rfl
        rw [et, List.map_append, List.map_append]
        rfl
    · rintro σ H3 ⟨v3, v4, v5, v6, v7, rfl, s3, d3⟩
      rw [List.take_length] at d3
      refine ⟨⟨_, rfl⟩, _, rfl, _, D, G.map (lineT tags), rfl, rfl, .inl (SqL.of d3), ?_, k _ s3⟩
      have b1 : ((G.map (lineT tags)).map (·.length)).sum ≤ (G.map (lineT tags)).length * 200 := sum_le (fun t : Str => t.length) 200 fun t ht => by
        obtain ⟨s, hs, rfl⟩ := List.mem_map.mp ht
        exact line_len to (ft.words s hs).1 (ft.words s hs).2 (ft.ways s hs).2
      rw [List.length_map] at b1 ⊢
      show _ + _ * 1 ≤ 16777216
      omega
end
end Law
end

section
set_option Elab.async false
set_option linter.all false
set_option maxRecDepth 100000
/-! Qtext: texts by their signs. -/
namespace QT
open PySem PySem.Spec PyProof.Rows L2 TL
theorem tl_cutL (z : Str) (k : Nat) : tl (cutS z none (some (k : Int))) = (tl z).take k := by
  unfold cutS
  rw [HT.sIx_nat, HT.sIx_none, List.drop_zero, Nat.sub_zero, tl_mk]
  show _ = z.cps.toList.take k
  have e : z.length = z.cps.toList.length := len_tl z
  by_cases h : k ≤ z.length
  · rw [Nat.min_eq_left h]
  · rw [Nat.min_eq_right (by omega), List.take_of_length_le (by omega), List.take_of_length_le (by omega)]
theorem tl_cutR (z : Str) (k : Nat) : tl (cutS z (some (k : Int)) none) = (tl z).drop k := by
  unfold cutS
  rw [HT.sIx_nat, HT.sIx_none, tl_mk]
  show _ = z.cps.toList.drop k
  have e : z.length = z.cps.toList.length := len_tl z
  by_cases h : k ≤ z.length
  · rw [Nat.min_eq_left h, List.take_of_length_le (by rw [List.length_drop]; omega)]
  · rw [Nat.min_eq_right (by omega), List.drop_eq_nil_of_le (by omega), List.drop_eq_nil_of_le (by omega), List.take_nil]
theorem joinL_nil : ∀ l : List (List Nat), joinL [] l = l.flatten
  | [] => rfl
  | [p] => by simp [joinL]
  | p :: q :: r => by
    rw [joinL, joinL_nil (q :: r)]
    simp
theorem tl_join0 (ys : List Str) : tl (Txt.join Str.empty ys) = (ys.map tl).flatten := by
  rw [join_eq, tl_join]
  exact joinL_nil _
/-- the letters -/
def abc : Str := "abcdefghijklmnopqrstuvwxyz"
theorem abc_len : abc.length = 26 := by decide +kernel
theorem abc_tl : tl abc = (List.range 26).map (97 + ·) := by decide +kernel
theorem abc_mem {c : Nat} : c ∈ tl abc ↔ 97 ≤ c ∧ c < 123 := by
  rw [abc_tl, List.mem_map]
  constructor
  · rintro ⟨i, hi, rfl⟩
    rw [List.mem_range] at hi
    omega
  · rintro ⟨h1, h2⟩
    exact ⟨c - 97, List.mem_range.mpr (by omega), by omega⟩
theorem abc_at {i : Nat} (h : i < 26) : abc.cps[i]? = some (97 + i) := by
  have e : (tl abc)[i]? = some (97 + i) := by
    rw [abc_tl, List.getElem?_map, List.getElem?_range h]
    rfl
  rw [← e]
  simp [tl]
theorem abc_item {i : Int} (h0 : 0 ≤ i) (h : i < 26) : abc.cps[i.toNat]? = some (97 + i.toNat) := abc_at (by omega)
/-- a sign within fixed ones -/
theorem mid_inj {A B T T' : List Nat} {c d : Nat} (h : A ++ [c] ++ B ++ T = A ++ [d] ++ B ++ T') : c = d := by
  have e := congrArg (fun l : List Nat => l[A.length]?) h
  simpa using e
end QT
end

section
set_option Elab.async false
set_option linter.all false
set_option maxRecDepth 100000
set_option maxHeartbeats 4000000
namespace Law
open PySem PySem.Spec PyProof.Rows L2 LamX QB QM QV
/-- all ways of a row set -/
def setAll : Ways → List (Nat × Str) → Ways
  | ws, [] => ws
  | ws, (i, d) :: r => setAll (ws.set i (some (numOf d))) r
theorem setAll_snoc : ∀ (l : List (Nat × Str)) (ws : Ways) (i : Nat) (d : Str), setAll ws (l ++ [(i, d)]) = (setAll ws l).set i (some (numOf d))
  | [], _, _, _ => rfl
  | (_, _) :: r, _, i, d => setAll_snoc r _ i d
theorem setAll_len : ∀ (l : List (Nat × Str)) (ws : Ways), (setAll ws l).length = ws.length
  | [], _ => rfl
  | (i, d) :: r, ws => by
    show (setAll (ws.set i (some (numOf d))) r).length = _
    rw [setAll_len r, List.length_set]
open TL PySem.Builtin.Str in
/-- a text cut at its first sign c -/
theorem cut_at (t : Str) (c : Nat) : (c ∉ t.cps.toList ∧ Txt.partition t ⟨#[c]⟩ = (t, Str.empty, Str.empty)) ∨
    ∃ i rest, occurrences t ⟨#[c]⟩ 0 t.length 1 = i :: rest ∧ i < t.length ∧ c ∈ t.cps.toList ∧
      Txt.partition t ⟨#[c]⟩ = (cutS t none (some (i : Int)), ⟨#[c]⟩, cutS t (some ((i : Int) + 1)) none) ∧ (cutS t none (some (i : Int))).length = i := by
  rcases StrLaws.occ_head t ⟨#[c]⟩ 1 (Nat.le_refl 1) with ⟨h0, hn⟩ | ⟨i, r, h0, hi, hn⟩
  · refine .inl ⟨fun hc => ?_, ?_⟩
    · obtain ⟨i, hi⟩ := (PyProof.Rows.mem_iff_at t c).mp hc
      exact hn i hi
    · unfold Txt.partition
      rw [h0]
  · have hl : i + 1 ≤ t.length := hi.1
    refine .inr ⟨i, r, h0, hl, (PyProof.Rows.mem_iff_at t c).mpr ⟨i, hi⟩, ?_, ?_⟩
    · unfold Txt.partition
      rw [h0]
      show (strSub t 0 i, _, strSub t (i + 1) t.length) = _
      have e1 : strSub t 0 i = cutS t none (some (i : Int)) := ext_tl (by rw [tl_strSub, QT.tl_cutL, List.drop_zero, Nat.sub_zero])
      have e2 : strSub t (i + 1) t.length = cutS t (some ((i : Int) + 1)) none := ext_tl (by rw [tl_strSub_end]; exact (QT.tl_cutR t (i + 1)).symm)
      rw [e1, e2]
    · show (tl (cutS t none (some (i : Int)))).length = i
      have : t.length = (tl t).length := rfl
      rw [QT.tl_cutL, List.length_take]
      omega
theorem numeral_digits {d : Str} (h : numeral d = true) : ∀ c ∈ d.cps.toList, c ∈ digits.cps.toList := by
  unfold numeral at h
  cases q : d.cps.toList with
  | nil =>
    rw [q] at h
    cases h
  | cons c r =>
    rw [q] at h
    dsimp only at h
    rw [Bool.and_eq_true, List.all_eq_true] at h
    intro x hx
    exact of_decide_eq_true (h.1 x hx)
open TL in
/-- a part parted by partition and by split -/
theorem way_split (tags : Word) (p : Str) : (rdWay tags p = none ∧ (Txt.split p (Str.ofString "=")).length ≠ 2) ∨
    ∃ u d, Txt.split p (Str.ofString "=") = [u, d] ∧ rdWay tags p = if u ∈ tags ∧ numeral d = true then some (tags.idxOf u, d) else none := by
  have key := split_spl p (Str.ofString "=") (by decide +kernel) (kind_ok (by decide +kernel))
  have ey : tl (Str.ofString "=") = 61 :: [] := by decide +kernel
  have ll : (Txt.split p (Str.ofString "=")).length = ((Txt.split p (Str.ofString "=")).map tl).length := (List.length_map ..).symm
  rw [ey] at key
  by_cases h : 61 ∈ tl p
  · obtain ⟨a, b, e, ha⟩ := List.eq_append_cons_of_mem h
    have hp : Txt.partition p (Str.ofString "=") = (⟨a.toArray⟩, Str.ofString "=", ⟨b.toArray⟩) := by
      have e1 : p = (⟨a.toArray⟩ : Str) ++ Str.ofString "=" ++ (⟨b.toArray⟩ : Str) := ext_tl (by rw [tl_append, tl_append, ey, e, List.append_assoc]; rfl)
      rw [e1]
      exact partition_app (s := 61) (S := []) ey ha
    have cut : ∀ {l a b : List Nat}, l = a ++ 61 :: b → 61 ∉ a → spl [61] 0 [] l = a :: spl [61] 0 [] b := fun {l a b} e ha => by
      rw [e]
      exact spl_part1 (s := 61) (S := []) (acc := []) (rest := b) ha
    have hs := cut e ha
    by_cases hb : 61 ∈ b
    · refine .inl ⟨?_, ?_⟩
      · unfold rdWay
        rw [hp, if_neg]
        rintro ⟨_, hn⟩
        exact absurd (numeral_digits hn 61 hb) (by decide +kernel)
      · obtain ⟨a2, b2, e2, ha2⟩ := List.eq_append_cons_of_mem hb
        rw [ll, key, hs, cut e2 ha2, List.length_cons, List.length_cons]
        have := spl_pos (b := [61]) b2 0 []
        omega
    · have hs2 : spl [61] 0 [] b = [b] := by rw [spl_last1 hb]; rfl
      refine .inr ⟨⟨a.toArray⟩, ⟨b.toArray⟩, map_tl_inj (by rw [key, hs, hs2]; rfl), ?_⟩
      unfold rdWay
      rw [hp]
  · refine .inl ⟨?_, ?_⟩
    · unfold rdWay
      rw [partition_none (s := 61) (S := []) ey h, if_neg]
      rintro ⟨_, hn⟩
      cases hn
    · rw [ll, key, spl_last1 h]
      exact fun z => by cases z
open TL in
/-- the ways' text parted -/
theorem ways_rest (tags : Word) (t : Str) : (t = Str.ofString "" ∧ rdWays tags t = some [] ∧ (Txt.split t (Str.ofString " ")).drop 1 = []) ∨
    (∃ c r, t.cps.toList = c :: r ∧ c ≠ 32 ∧ rdWays tags t = none) ∨
    ∃ r, t.cps.toList = 32 :: r ∧ rdWays tags t = rdParts tags (-1) ((Txt.split t (Str.ofString " ")).drop 1) := by
  have key := split_spl t (Str.ofString " ") (by decide +kernel) (kind_ok (by decide +kernel))
  have ey : tl (Str.ofString " ") = 32 :: [] := by decide +kernel
  rw [ey] at key
  cases q : t.cps.toList with
  | nil =>
    have ht : t = Str.ofString "" := ext_tl q
    refine .inl ⟨ht, ?_, ?_⟩
    · unfold rdWays
      rw [q]
    · have q : tl t = [] := q
      rw [q, spl_nil] at key
      refine map_tl_inj ?_
      rw [List.map_drop, key]
      rfl
  | cons c r =>
    by_cases hc : c = 32
    · subst hc
      refine .inr (.inr ⟨r, rfl, ?_⟩)
      unfold rdWays
      rw [q]
      show (if 32 = 32 then rdParts tags (-1) (Txt.split (cutS t (some 1) none) " ") else none) = _
      rw [if_pos rfl]
      congr 1
      refine map_tl_inj ?_
      have q : tl t = 32 :: r := q
      have k2 := split_spl (cutS t (some 1) none) (Str.ofString " ") (by decide +kernel) (kind_ok (by decide +kernel))
      have k2 : (Txt.split (cutS t (some 1) none) (Str.ofString " ")).map tl = spl (tl (Str.ofString " ")) 0 [] (tl (cutS t (some ((1 : Nat) : Int)) none)) := k2
      rw [ey, QT.tl_cutR, q] at k2
      show (Txt.split (cutS t (some 1) none) (Str.ofString " ")).map tl = _
      rw [k2, List.map_drop, key, q, spl_hit (by rfl)]
      rfl
    · refine .inr (.inl ⟨c, r, rfl, hc, ?_⟩)
      unfold rdWays
      rw [q]
      exact if_neg hc
section
variable {P : Program} {w : World} {K : PySem.W.Frag} {mg : Str → Option Value} {base : Heap}
/-- the law's own reading of a line -/
theorem ok__law_line_of (X : TX K mg) : FnOk P w K mg base CX0 4 X.d__law_line_of.a X.d__law_line_of.fd ["tags", "line"]
    (fun vs H Q _ => ∃ (a : Addr) (tags : Word) (t : Str), vs = [.ref a, .str t] ∧ WordAt H a tags ∧ tags.length ≤ 6 ∧ t.length ≤ 640 ∧
      ∀ (v : V) (H' : Hp), Same H H' → ((v = .non ∧ rdLine tags t = none) ∨ ∃ (p b y : Addr) (wd : Word) (l : List (Nat × Str)), v = .ref p ∧ H b = none ∧ H y = none ∧ H' p = some (.tup [.ref b, .ref y]) ∧ WordAt H' b wd ∧
        WaysAt H' y (setAll (List.replicate tags.length none) l) ∧ rdLine tags t = some (wd, l)) → Q v H') := by
  have nd := sc__law_line_of.nd
  refine X.d__law_line_of.F.ok sc__law_line_of (fun vs H Q E h => ?_) (fun cdv A outer s H vs Q E hr h => ?_)
  · obtain ⟨a, tags, t, rfl, _⟩ := h
    rfl
  · obtain ⟨a, tags, t, rfl, ha, htl, hz, k⟩ := h
    refine ⟨_, (pss_cons (ps_if (pt_cmpR op_notIn_sign pe_str (pv 1) rfl) (pss_one (ps_ret pe_non)) pss_nil) (pss_cons (ps_set (i := 2) nd rfl (Or.inl rfl) (pe_slice sl_str (pv 1) po_none (po_some (pe_m1 PySem.F.slot_str_index PySem.F.type_str_index mt_sindex (pv 1) pe_str)))) (pss_cons (ps_set (i := 3) nd rfl (Or.inl rfl) (pe_slice sl_str (pv 1) (po_some (pe_op op_add (pe_callB call_len_str (by rfl) X.n_len PySem.boot_len (pa_cons (pv 2) pa_nil)) pe_int)) po_none)) (pss_cons (ps_set (i := 4) nd rfl (Or.inl rfl) (pe_call (ok__law_word_of X) (hr.mono (by decide)) rfl X.d__law_word_of.mg X.d__law_word_of.F.kp X.d__law_word_of.b .nil pass0 (pa_cons (pv 0) (pa_cons (pv 2) pa_nil)))) (pss_cons (ps_if (PW.pt (pw_or (pt_cmpR op_isN (pv 4) pe_non (nomark _)) (pw_or1 (PW.pt (pw_and (pt_cmpR op_ne (pv 3) pe_str (nomark _)) (pw_and1 (pt_cmpR op_ne (pe_item_str (pv 3) pe_int (fun _ _ => rfl)) pe_str (nomark _)))))))) (pss_one (ps_ret pe_non)) pss_nil) (pss_cons (ps_setLc (i := 5) (own := [("tag", 9)]) (g := gName 9) (tt := tYes) rfl nd rfl rfl (sw_true rfl rfl rfl (by decide +kernel)) (QB.pi_listK K (pv 0)) (blkOk_by (N := ["tags", "line", "head", "rest", "word", "ways", "last", "part", "halves", "tag"]) (sc := defScope s__law_line_of) (by decide +kernel)) (fun _ _ _ _ _ => pg_name (i := 9) nd rfl (Or.inl rfl)) (fun _ _ _ _ _ => pts_nil) (fun _ _ _ _ _ => pe_non)) (pss_cons (ps_set (i := 6) nd rfl (Or.inl rfl) (pe_op op_sub pe_int pe_int)) (pss_cons (ps_for PassesOwn.never rfl (QB.pi_listK K (pe_slice (QB.sl_listK K) (pe_split (pv 3) pe_str) (po_some pe_int) po_none)) (pg_name (i := 7) nd rfl (Or.inl rfl)) (pss_cons (ps_set (i := 8) nd rfl (Or.inl rfl) (pe_split (pv 7) pe_str)) (pss_cons (ps_if (PW.pt (pw_or (pt_cmpR op_ne (pe_callB (QB.call_lenK K) (by rfl) X.n_len PySem.boot_len (pa_cons (pv 8) pa_nil)) pe_int (nomark _)) (pw_or (pt_cmpR (QB.op_notInK K) (pe_ix (QB.ix_listK K) (pv 8) pe_int (fun _ _ => rfl)) (pv 0) rfl) (pw_or1 (pt_cmpR op_isN (pe_call (ok__law_number X) (hr.mono (by decide)) rfl X.d__law_number.mg X.d__law_number.F.kp X.d__law_number.b .nil pass0 (pa_cons (pe_ix (QB.ix_listK K) (pv 8) pe_int (fun _ _ => rfl)) pa_nil)) pe_non (nomark _)))))) (pss_one (ps_ret pe_non)) pss_nil) (pss_cons (ps_if (pt_cmpR op_le (QB.pe_bmK K PySem.F.plainAttrs_list PySem.F.slot_list_index PySem.F.type_list_index (QB.mt_indexK K) (pv 0) (pa_cons (pe_ix (QB.ix_listK K) (pv 8) pe_int (fun _ _ => rfl)) pa_nil)) (pv 6) (nomark _)) (pss_one (ps_ret pe_non)) pss_nil) (pss_cons (ps_set (i := 6) nd rfl (Or.inl rfl) (QB.pe_bmK K PySem.F.plainAttrs_list PySem.F.slot_list_index PySem.F.type_list_index (QB.mt_indexK K) (pv 0) (pa_cons (pe_ix (QB.ix_listK K) (pv 8) pe_int (fun _ _ => rfl)) pa_nil))) (pss_one (ps_asg (pe_call (ok__law_number X) (hr.mono (by decide)) rfl X.d__law_number.mg X.d__law_number.F.kp X.d__law_number.b .nil pass0 (pa_cons (pe_ix (QB.ix_listK K) (pv 8) pe_int (fun _ _ => rfl)) pa_nil)) (pg_sub (pv 5) (pv 6) set_list)))))))) (pss_one (ps_ret (pe_tup (pa_cons (pv 4) (pa_cons (pv 5) pa_nil))))))))))))), ?_⟩
    try dsimp only [Cx.nox, Cx.wish, cxOf]
    have ec : Str.ofString ":" = ⟨#[58]⟩ := by rfl
    refine ⟨_, rfl, 58, t, rfl, rfl, _, rfl, ?_⟩
    rcases cut_at t 58 with ⟨hn, hp⟩ | ⟨i, rest0, ho, hi, hm, hp, hl⟩
    · rw [decide_eq_false hn]
      refine iteT ?_
      refine k _ _ (Same.refl H) (.inl ⟨rfl, ?_⟩)
      unfold rdLine
      rw [show Txt.partition t ":" = (t, Str.empty, Str.empty) from hp]
      rfl
    rw [decide_eq_true hm]
    refine iteF ?_
    have hcl := cutS_length t none (some (i : Int))
    have hcr := cutS_length t (some ((i : Int) + 1)) none
    have er : rdLine tags t = match rd tags 8 (cutS t none (some (i : Int))), rdWays tags (cutS t (some ((i : Int) + 1)) none) with
        | some wd, some l => some (wd, l)
        | _, _ => none := by
      unfold rdLine
      rw [show Txt.partition t ":" = (cutS t none (some (i : Int)), ⟨#[58]⟩, cutS t (some ((i : Int) + 1)) none) from hp]
      rfl
    rw [er] at k
    refine ⟨_, rfl, _, rfl, ⟨_, rfl⟩, t, _, i, rest0, rfl, rfl, ho, _, rfl, t, rfl, sz_le (by omega), ?_⟩
    generalize hu : cutS t none (some (i : Int)) = u at k hl hcl ⊢
    refine ⟨_, rfl, _, rfl, u, rfl, sz_le (by omega), _, _, rfl, rfl, _, rfl, t, rfl, sz_le (by omega), ?_⟩
    rw [hl]
    generalize hd : cutS t (some ((i : Int) + 1)) none = r at k hcr ⊢
    refine ⟨_, rfl, _, rfl, a, tags, u, rfl, ha, by omega, fun v1 H1 s1 h1 => ?_⟩
    refine ⟨_, rfl, rfl, _, rfl, ?_⟩
    rcases h1 with ⟨rfl, hn⟩ | ⟨b, wd, rfl, nb, hb, hw⟩
    · rw [hn] at k
      rw [decide_eq_true rfl]
      exact iteT (k _ _ s1 (.inl ⟨rfl, rfl⟩))
    rw [decide_eq_false (fun z => nomatch z)]
    refine iteF ?_
    rw [hw] at k
    have k : ∀ (v : V) (H' : Hp), Same H H' → ((v = .non ∧ rdWays tags r = none) ∨ ∃ (p b y : Addr) (wd' : Word) (l : List (Nat × Str)), v = .ref p ∧ H b = none ∧ H y = none ∧ H' p = some (.tup [.ref b, .ref y]) ∧ WordAt H' b wd' ∧
        WaysAt H' y (setAll (List.replicate tags.length none) l) ∧ wd' = wd ∧ rdWays tags r = some l) → Q v H' := fun v H' s' h => k v H' s' (by
      rcases h with ⟨e1, e2⟩ | ⟨p, b, y, wd', l, e1, e2, e3, e4, e5, e6, e7, e8⟩
      · exact .inl ⟨e1, by rw [e2]⟩
      · exact .inr ⟨p, b, y, wd', l, e1, e2, e3, e4, e5, e6, by rw [e8, e7]⟩)
    have hN0 : ∀ {H2 : Hp} {z : Addr}, Same H1 H2 → H2 z = none → H z = none := fun s2 hz => (s1.trans s2).free hz
    have hcase : (∃ c r', r.cps.toList = c :: r' ∧ c ≠ 32 ∧ rdWays tags r = none) ∨ ((r = Str.ofString "" ∨ ∃ r', r.cps.toList = 32 :: r') ∧ rdWays tags r = rdParts tags (-1) ((Txt.split r (Str.ofString " ")).drop 1)) := by
      rcases ways_rest tags r with ⟨h0, e1, e2⟩ | h | ⟨r', e1, e2⟩
      · exact .inr ⟨.inl h0, by rw [e1, e2]; rfl⟩
      · exact .inl h
      · exact .inr ⟨.inr ⟨r', e1⟩, e2⟩
    have e3 : ∀ c : Nat, decide (V.str ⟨#[c]⟩ = V.str (Str.ofString " ")) = decide (c = 32) := fun c => by
      refine decide_eq_decide.mpr ⟨fun z => ?_, fun z => by rw [z]; rfl⟩
      have z : (⟨#[c]⟩ : Str) = ⟨#[32]⟩ := V.str.inj z
      injection z with z
      have := congrArg Array.toList z
      simpa using this
    have e4 : ∀ c r', r.cps.toList = c :: r' → decide (V.str r = V.str (Str.ofString "")) = false := fun c r' e => decide_eq_false fun z => by
      rw [V.str.inj z] at e
      cases e
    have e5 : ∀ c r', r.cps.toList = c :: r' → r.cps[0]? = some c ∧ 0 < r.length := fun c r' e => by
      refine ⟨by rw [← Array.getElem?_toList, e]; rfl, ?_⟩
      show 0 < r.cps.size
      rw [← Array.length_toList, e]
      exact Nat.succ_pos _
    refine ⟨_, rfl, rfl, _, rfl, ?_⟩
    rcases hcase with ⟨c, r', e1, e2, en⟩ | ⟨hA, hw2⟩
    · rw [e4 c r' e1]
      refine iteT ?_
      refine ⟨_, rfl, r, 0, c, rfl, rfl, by decide, by decide, by have := (e5 c r' e1).2; omega, (e5 c r' e1).1, rfl, _, rfl, ?_⟩
      rw [e3, decide_eq_false e2]
      refine iteT ?_
      exact k _ _ s1 (.inl ⟨rfl, en⟩)
    rcases hA with h0 | ⟨r', e1⟩
    case' inl =>
      rw [decide_eq_true (congrArg V.str h0)]
      refine iteF ?_
    case' inr =>
      rw [e4 32 r' e1]
      refine iteT ?_
      refine ⟨_, rfl, r, 0, 32, rfl, rfl, by decide, by decide, by have := (e5 32 r' e1).2; omega, (e5 32 r' e1).1, rfl, _, rfl, ?_⟩
      rw [e3, decide_eq_true rfl]
      refine iteF ?_
    all_goals
      clear e3 e4 e5
      rw [hw2] at k
      have hps := split_short r (Str.ofString " ") (by decide +kernel) (by decide +kernel)
      have hs := split_le r (Str.ofString " ")
      refine ⟨_, rfl, _, rfl, ⟨_, SqL.of (Same.word s1 ha)⟩, fun D hD => ?_⟩
      refine lc_map (walk_listW (K := K) (a := a) (w := tags)) hD (by omega) (fun H2 s2 => Same.word (s1.trans s2) ha) (fun _ => .non) ?_ ?_
      · rintro j x H2 H3 kk hj s2 ⟨y, hy, rfl, rfl⟩ hk
        exact ⟨rfl, hk _ (Same.refl H3)⟩
      · intro H2 s2 e
        have kD : H2 D = some (.lst (vWs (setAll (List.replicate tags.length none) []))) := by
          rw [e]
          show _ = some (HO.lst (vWs (List.replicate tags.length none)))
          rw [pt_nones, List.map_const', List.length_range]
        have hDN : H D = none := s1.free hD
        have bD : b ≠ D := ne_of_none hb hD
        have hb2 := Same.word s2 hb
        have s12 := s1.trans s2
        clear e
        refine ⟨_, _, rfl, rfl, ?_⟩
        refine ⟨_, rfl, ⟨_, rfl⟩, r, _, rfl, rfl, by decide, sz_le (by omega), fun q hq => ?_⟩
        have s3 := s12.trans (same_new (o := .lst ((Txt.split r (Str.ofString " ")).map V.str)) hq)
        have kq : WordAt (upd H2 q (.lst ((Txt.split r (Str.ofString " ")).map V.str))) q (Txt.split r (Str.ofString " ")) := upd_same
        have kD3 := (same_new (o := .lst ((Txt.split r (Str.ofString " ")).map V.str)) hq) _ _ kD
        have hb3 := Same.word (same_new (o := .lst ((Txt.split r (Str.ofString " ")).map V.str)) hq) hb2
        generalize upd H2 q (.lst ((Txt.split r (Str.ofString " ")).map V.str)) = H3 at s3 kq kD3 hb3 ⊢
        refine ⟨_, rfl, q, _, rfl, SqL.of kq, fun q2 hq2 => ?_⟩
        have e8 : cutV (vS (Txt.split r (Str.ofString " "))) (some 1) none = ((Txt.split r (Str.ofString " ")).drop 1).map V.str := (cut_drop _ 1).trans (List.map_drop ..).symm
        have sn := same_new (o := .lst (cutV (vS (Txt.split r (Str.ofString " "))) (some 1) none)) hq2
        have s4 := s3.trans sn
        have kq4 : WordAt (upd H3 q2 (.lst (cutV (vS (Txt.split r (Str.ofString " "))) (some 1) none))) q2 ((Txt.split r (Str.ofString " ")).drop 1) := by
          unfold WordAt
          rw [upd_same, e8]
          rfl
        have kD4 := sn _ _ kD3
        have hb4 := Same.word sn hb3
        have q2D : q2 ≠ D := (ne_of_none kD3 hq2).symm
        clear sn e8
        generalize upd H3 q2 (.lst (cutV (vS (Txt.split r (Str.ofString " "))) (some 1) none)) = H4 at s4 kq4 kD4 hb4 ⊢
        have hpl : ∀ y ∈ (Txt.split r (Str.ofString " ")).drop 1, y.length ≤ 640 := fun y hy => by
          have := hps y (List.mem_of_mem_drop hy)
          omega
        have hk2 := k
        clear k
        have k := hk2
        generalize (Txt.split r (Str.ofString " ")).drop 1 = ps at k hpl kq4
        refine ⟨_, rfl, ⟨_, SqL.of kq4⟩, ?_⟩
        refine for_it (walk_listW (K := K) (a := q2) (w := ps)) (fun j σ H' => ∃ (v7 v8 : Option V) (acc : List (Nat × Str)) (last : Int), σ = [some (.ref a), some (.str t), some (.str u), some (.str r), some (.ref b), some (.ref D), some (.int last), v7, v8, none] ∧ Same H H' ∧ WordAt H' q2 ps ∧ WordAt H' b wd ∧
            H' D = some (.lst (vWs (setAll (List.replicate tags.length none) acc))) ∧ rdParts tags (-1) ps = (rdParts tags last (ps.drop j)).map (acc ++ ·))
          ⟨_, _, [], -1, rfl, s4, kq4, hb4, kD4, by rw [List.drop_zero]; cases rdParts tags (-1) ps <;> rfl⟩ (fun j σ H' _ ⟨_, _, _, _, _, _, z, _⟩ => z) ?_ ?_
        · rintro j x σ H5 H6 hj ⟨v7, v8, acc, last, rfl, s5, wq, wb, dD, hrd⟩ ⟨y, hy, rfl, rfl⟩
          have hyl := hpl y (List.mem_of_getElem? hy)
          have ed : ps.drop j = y :: ps.drop (j + 1) := by
            obtain ⟨hlt, e⟩ := List.getElem?_eq_some_iff.mp hy
            rw [List.drop_eq_getElem_cons hlt, e]
          rw [ed, rdParts] at hrd
          have hsy := split_le y (Str.ofString "=")
          have hys := split_short y (Str.ofString "=") (by decide +kernel) (by decide +kernel)
          refine ⟨_, rfl, ⟨_, rfl⟩, y, _, rfl, rfl, by decide, sz_le (by omega), fun hv hh => ?_⟩
          have sn := same_new (o := .lst ((Txt.split y (Str.ofString "=")).map V.str)) hh
          have kh : (upd H6 hv (.lst ((Txt.split y (Str.ofString "=")).map V.str))) hv = some (.lst ((Txt.split y (Str.ofString "=")).map V.str)) := upd_same
          have wq7 := Same.word sn wq
          have wb7 := Same.word sn wb
          have dD7 := sn _ _ dD
          have s7 := s5.trans sn
          generalize upd H6 hv (.lst ((Txt.split y (Str.ofString "=")).map V.str)) = H7 at s7 kh wq7 wb7 dD7 ⊢
          clear sn
          refine ⟨_, rfl, _, _, rfl, .inl (SqL.of kh), rfl, _, rfl, ?_⟩
          rw [List.length_map]
          rcases way_split tags y with ⟨hn, hne⟩ | ⟨u2, d, es, hway⟩
          · rw [hn] at hrd
            rw [show decide (V.int ((Txt.split y (Str.ofString "=")).length : Int) = V.int 2) = false from decide_eq_false fun z => hne (by have := V.int.inj z; omega)]
            refine iteT ?_
            exact k _ _ s7 (.inl ⟨rfl, hrd⟩)
          rw [es] at kh hys ⊢
          have hd2 : d.length ≤ 640 := Nat.le_trans (hys d (by simp)) hyl
          rw [decide_eq_true (show V.int (([u2, d].length : Nat) : Int) = V.int 2 from rfl)]
          refine iteF ?_
          have bad : ∀ H8, Same H7 H8 → ¬ (u2 ∈ tags ∧ numeral d = true) → Q .non H8 := fun H8 s8 hb8 => by
            rw [hway, if_neg hb8] at hrd
            exact k _ _ (s7.trans s8) (.inl ⟨rfl, hrd⟩)
          refine ⟨_, rfl, hv, _, 0, _, rfl, rfl, SqL.of kh, rfl, _, rfl, a, vS tags, rfl, .inl (SqL.of (Same.word s7 ha)), rfl, vS_flat, _, rfl, ?_⟩
          rw [if_pos rfl, inV_word]
          by_cases hu2 : u2 ∈ tags
          case neg =>
            rw [decide_eq_false hu2]
            exact iteT (bad _ (Same.refl _) fun z => hu2 z.1)
          rw [decide_eq_true hu2]
          refine iteF ?_
          refine ⟨_, rfl, hv, _, 1, _, rfl, rfl, SqL.of kh, rfl, d, rfl, hd2, fun H8 s8 => ?_⟩
          refine ⟨rfl, _, rfl, ?_⟩
          unfold numV
          cases hn : numeral d with
          | false =>
            rw [if_neg Bool.false_ne_true]
            rw [decide_eq_true rfl]
            exact iteT (bad _ s8 fun z => by rw [hn] at z; cases z.2)
          | true =>
          rw [if_pos rfl, decide_eq_false (fun z => nomatch z)]
          refine iteF ?_
          rw [hway, if_pos ⟨hu2, hn⟩] at hrd
          dsimp only at hrd
          have s78 := s7.trans s8
          have kh8 := s8 _ _ kh
          refine ⟨_, rfl, .inl ⟨rfl, _, SqL.of (Same.word s78 ha)⟩, _, rfl, hv, _, 0, _, rfl, rfl, SqL.of kh8, rfl, ?_⟩
          dsimp only [tNil]
          refine index_word (Same.word s78 ha) hu2 ?_
          refine ⟨_, rfl, _, _, rfl, rfl, _, rfl, ?_⟩
          by_cases hil : (tags.idxOf u2 : Int) ≤ last
          · rw [if_pos hil] at hrd
            rw [decide_eq_true hil]
            exact iteT (k _ _ s78 (.inl ⟨rfl, hrd⟩))
          rw [if_neg hil] at hrd
          rw [decide_eq_false hil]
          refine iteF ?_
          refine ⟨_, rfl, .inl ⟨rfl, _, SqL.of (Same.word s78 ha)⟩, _, rfl, hv, _, 0, _, rfl, rfl, SqL.of kh8, rfl, ?_⟩
          dsimp only [tNil]
          refine index_word (Same.word s78 ha) hu2 ?_
          refine ⟨_, rfl, hv, _, 1, _, rfl, rfl, SqL.of kh8, rfl, d, rfl, hd2, fun H9 s9 => ?_⟩
          rw [if_pos hn]
          have s79 := s8.trans s9
          have dD9 := s79 _ _ dD7
          have s59 := s7.trans s79
          refine ⟨_, rfl, _, rfl, D, _, _, tags.idxOf u2, rfl, rfl, dD9, ixN_of (by rw [vWs_len, setAll_len, List.length_replicate]; exact List.idxOf_lt_length_of_mem hu2), ?_⟩
          refine ⟨_, _, acc ++ [(tags.idxOf u2, d)], (tags.idxOf u2 : Int), rfl, Same.mut s59 hDN, (upd_ne q2D).trans (s79 _ _ wq7), (upd_ne bD).trans (s79 _ _ wb7), ?_, ?_⟩
          · rw [upd_same, setAll_snoc]
            unfold vWs
            rw [List.map_set]
            rfl
          · rw [hrd, Option.map_map]
            congr 1
            funext l
            show acc ++ (tags.idxOf u2, d) :: l = acc ++ [(tags.idxOf u2, d)] ++ l
            rw [List.append_assoc]
            rfl
        · rintro σ H5 ⟨v7, v8, acc, last, rfl, s5, wq, wb, dD, hrd⟩
          rw [List.drop_eq_nil_of_le (Nat.le_refl _)] at hrd
          refine ⟨_, rfl, _, rfl, by show 2 ≤ sizeLine; decide, fun p hp => ?_⟩
          have s6 := same_new (o := .tup [.ref b, .ref D]) hp
          exact k _ _ (s5.trans s6) (.inr ⟨p, b, D, wd, acc, rfl, nb, hDN, upd_same, Same.word s6 wb, s6 _ _ dD, rfl, by rw [hrd]; show some (acc ++ []) = _; rw [List.append_nil]⟩)
end
end Law
end

section
set_option Elab.async false
set_option linter.all false
set_option maxRecDepth 100000
set_option maxHeartbeats 4000000
namespace Law
open PySem PySem.Spec PyProof.Rows L2 LamX QB QM QV
theorem fold_big : ∀ (r : List Nat) (a : Nat), a * 10 ^ r.length ≤ r.foldl (fun acc c => acc * 10 + (c - 48)) a
  | [], a => by
    show a * 1 ≤ a
    omega
  | c :: r, a => by
    have := fold_big r (a * 10 + (c - 48))
    rw [List.length_cons, Nat.pow_succ, List.foldl_cons]
    refine Nat.le_trans ?_ this
    rw [Nat.mul_comm (10 ^ r.length) 10, ← Nat.mul_assoc]
    exact Nat.mul_le_mul_right _ (by omega)
/-- a numeral below a hundred has two digits at most -/
theorem numeral_small {d : Str} (h : numeral d = true) (hm : numOf d < 100) : d.length ≤ 2 := by
  have el : d.length = d.cps.toList.length := rfl
  unfold numeral at h
  unfold numOf NumText.digitsVal at hm
  cases q : d.cps.toList with
  | nil =>
    rw [q] at el
    rw [el]
    exact Nat.zero_le _
  | cons c r =>
    rw [q] at h el hm
    dsimp only at h
    rw [Bool.and_eq_true, Bool.or_eq_true] at h
    rcases h.2 with h0 | h48
    · have := of_decide_eq_true h0
      rw [this]
      decide
    have hc : c ≠ 48 := by simpa using h48
    have hall := List.all_eq_true.mp h.1 c List.mem_cons_self
    have all : ∀ x ∈ digits.cps.toList, (decide (48 ≤ x) && decide (x ≤ 57)) = true := by decide +kernel
    have hd := all c (of_decide_eq_true hall)
    rw [Bool.and_eq_true, decide_eq_true_eq, decide_eq_true_eq] at hd
    rw [List.foldl_cons] at hm
    have hb := fold_big r (0 * 10 + (c - 48))
    rw [el, List.length_cons]
    refine Classical.byContradiction fun hn => ?_
    have h2 : 2 ≤ r.length := by omega
    have h3 : 10 ^ 2 ≤ 10 ^ r.length := Nat.pow_le_pow_right (by decide) h2
    have h4 : 1 * 10 ^ r.length ≤ (0 * 10 + (c - 48)) * 10 ^ r.length := Nat.mul_le_mul_right _ (by omega)
    omega
abbrev Inc (l : List (Nat × Str)) : Prop := l.Pairwise fun a b => a.1 ≠ b.1
theorem parts_inc {tags : Word} : ∀ {ps : List Str} {last : Int} {l : List (Nat × Str)}, rdParts tags last ps = some l → (∀ x ∈ l, last < (x.1 : Int)) ∧ Inc l
  | [], _, l, h => by
    cases h
    exact ⟨fun _ h => (nomatch h), .nil⟩
  | p :: ps, last, l, h => by
    rw [rdParts] at h
    cases q : rdWay tags p with
    | none =>
      rw [q] at h
      cases h
    | some y =>
      obtain ⟨i, d⟩ := y
      rw [q] at h
      dsimp only at h
      by_cases hl : (i : Int) ≤ last
      · rw [if_pos hl] at h
        cases h
      rw [if_neg hl] at h
      cases q2 : rdParts tags i ps with
      | none =>
        rw [q2] at h
        cases h
      | some r =>
        rw [q2] at h
        cases h
        obtain ⟨h1, h2⟩ := parts_inc q2
        refine ⟨fun x hx => ?_, .cons (fun x hx => ?_) h2⟩
        · rcases List.mem_cons.mp hx with rfl | hx
          · show last < (i : Int)
            omega
          · have := h1 x hx
            omega
        · have := h1 x hx
          show i ≠ x.1
          omega
theorem row_inc {tags : Word} {t : Str} {y : RowT} (h : rdLine tags t = some y) : Inc y.2 := by
  unfold rdLine at h
  by_cases hm : (Txt.partition t ":").2.1.length = 0
  · rw [if_pos hm] at h
    cases h
  rw [if_neg hm] at h
  cases q1 : rd tags 8 (Txt.partition t ":").1 with
  | none =>
    rw [q1] at h
    cases h
  | some wd =>
    rw [q1] at h
    cases q2 : rdWays tags (Txt.partition t ":").2.2 with
    | none =>
      rw [q2] at h
      cases h
    | some l =>
      rw [q2] at h
      cases h
      rcases ways_rest tags (Txt.partition t ":").2.2 with ⟨_, e, _⟩ | ⟨_, _, _, _, e⟩ | ⟨_, _, e⟩
      · rw [e] at q2
        cases q2
        exact .nil
      · rw [e] at q2
        cases q2
      · rw [e] at q2
        exact (parts_inc q2).2
theorem setAll_other : ∀ (l : List (Nat × Str)) (ws : Ways) (i : Nat), (∀ x ∈ l, i ≠ x.1) → (setAll ws l)[i]? = ws[i]?
  | [], _, _, _ => rfl
  | (j, d) :: r, ws, i, h => by
    have e : setAll ws ((j, d) :: r) = setAll (ws.set j (some (numOf d))) r := rfl
    rw [e, setAll_other r _ i fun x hx => h x (List.mem_cons_of_mem _ hx), List.getElem?_set_ne]
    exact fun z => h _ List.mem_cons_self z.symm
theorem setAll_at : ∀ (l : List (Nat × Str)) (ws : Ways) (x : Nat × Str), Inc l → (∀ x ∈ l, x.1 < ws.length) → x ∈ l → (setAll ws l)[x.1]? = some (some (numOf x.2))
  | [], _, _, _, _, h => nomatch h
  | (j, d) :: r, ws, x, hi, hl, hx => by
    have e : setAll ws ((j, d) :: r) = setAll (ws.set j (some (numOf d))) r := rfl
    rw [e]
    cases hi with
    | cons h1 h2 =>
    rcases List.mem_cons.mp hx with rfl | hx
    · rw [setAll_other r _ _ fun y hy => h1 y hy]
      have := hl _ List.mem_cons_self
      rw [List.getElem?_set_self this]
    · exact setAll_at r _ x h2 (fun y hy => by rw [List.length_set]; exact hl y (List.mem_cons_of_mem _ hy)) hx
theorem setAll_all {many : Nat} : ∀ (l : List (Nat × Str)) (ws : Ways), (∀ m, some m ∈ ws → m < many) → (∀ x ∈ l, numOf x.2 < many) → ∀ m, some m ∈ setAll ws l → m < many
  | [], _, h, _, m, hm => h m hm
  | (j, d) :: r, ws, h, h2, m, hm => by
    refine setAll_all r (ws.set j (some (numOf d))) (fun k hk => ?_) (fun x hx => h2 x (List.mem_cons_of_mem _ hx)) m hm
    rcases List.mem_or_eq_of_mem_set hk with z | z
    · exact h k z
    · cases z
      exact h2 _ List.mem_cons_self
theorem among_eq {many : Nat} (hm : many ≤ 100) : ∀ (l : List (Nat × Str)) (ws : Ways), (∀ x ∈ l, numeral x.2 = true) → among many ws l = if ∀ x ∈ l, numOf x.2 < many then some (setAll ws l) else none
  | [], ws, _ => by
    rw [if_pos fun _ h => nomatch h]
    rfl
  | (i, d) :: r, ws, hn => by
    rw [among, among_eq hm r _ fun x hx => hn x (List.mem_cons_of_mem _ hx)]
    have hd := hn _ List.mem_cons_self
    by_cases h1 : numOf d < many
    · have h2 : d.length ≤ 2 := numeral_small hd (by omega)
      rw [if_pos ⟨h2, h1⟩]
      by_cases h3 : ∀ x ∈ r, numOf x.2 < many
      · rw [if_pos h3, if_pos]
        · rfl
        · intro x hx
          rcases List.mem_cons.mp hx with rfl | hx
          · exact h1
          · exact h3 x hx
      · rw [if_neg h3, if_neg]
        exact fun z => h3 fun x hx => z x (List.mem_cons_of_mem _ hx)
    · rw [if_neg (fun z => h1 z.2), if_neg]
      exact fun z => h1 (z _ List.mem_cons_self)
/-- the standing of a row as the law makes it -/
def rowStd (nt : Nat) (y : RowT) : Std := (y.1, setAll (List.replicate nt none) y.2)
def nearF (many : Nat) (F : Form) : Prop := ∀ s ∈ F, ∀ m, some m ∈ s.2 → m < many
theorem form_eq {tags : Word} {many : Nat} (hm : many ≤ 100) : ∀ {rs : List RowT}, (∀ y ∈ rs, RowOk tags y ∧ Inc y.2) →
    (nearF many (rs.map (rowStd tags.length)) ∧ formR many tags.length rs = some (rs.map (rowStd tags.length))) ∨ (¬ nearF many (rs.map (rowStd tags.length)) ∧ formR many tags.length rs = none)
  | [], _ => .inl ⟨fun _ h => (nomatch h), rfl⟩
  | (wd, l) :: rs, h => by
    obtain ⟨ho, hi⟩ := h _ List.mem_cons_self
    have ha := among_eq hm l (List.replicate tags.length none) fun x hx => (ho.ways x hx).1
    have lens : ∀ x ∈ l, x.1 < (List.replicate tags.length (none : Option Nat)).length := fun x hx => by rw [List.length_replicate]; exact (ho.ways x hx).2.1
    rw [formR]
    by_cases hc : ∀ x ∈ l, numOf x.2 < many
    · rw [if_pos hc] at ha
      rw [ha]
      rcases form_eq hm (fun y hy => h y (List.mem_cons_of_mem _ hy)) with ⟨h1, h2⟩ | ⟨h1, h2⟩
      · refine .inl ⟨fun s hs => ?_, by rw [h2]; rfl⟩
        rcases List.mem_cons.mp hs with rfl | hs
        · exact setAll_all l _ (fun m hm => by have := List.eq_of_mem_replicate hm; cases this) hc
        · exact h1 s hs
      · refine .inr ⟨fun z => h1 fun s hs => z s (List.mem_cons_of_mem _ hs), by rw [h2]⟩
    · rw [if_neg hc] at ha
      rw [ha]
      refine .inr ⟨fun z => hc fun x hx => ?_, rfl⟩
      have := setAll_at l _ x hi lens hx
      exact z (wd, setAll (List.replicate tags.length none) l) List.mem_cons_self _ (List.mem_of_getElem? this)
def bigW (many : Nat) (w : Option Nat) : Bool := match w with
  | some m => decide (many ≤ m)
  | none => false
/-- the ways that lead too far -/
def farL (many : Nat) (F : Form) : List V := F.flatMap fun s => (s.2.filter (bigW many)).map vW
theorem far_nil {many : Nat} {F : Form} : (farL many F).isEmpty = true ↔ nearF many F := by
  unfold farL nearF
  rw [List.isEmpty_iff, List.flatMap_eq_nil_iff]
  refine ⟨fun h s hs m hm => ?_, fun h s hs => ?_⟩
  · have h1 := List.map_eq_nil_iff.mp (h s hs)
    have h2 := List.filter_eq_nil_iff.mp h1 _ hm
    have : ¬ (decide (many ≤ m) = true) := h2
    rw [decide_eq_true_eq] at this
    omega
  · rw [List.map_eq_nil_iff, List.filter_eq_nil_iff]
    intro w hw
    cases w with
    | none => exact Bool.false_ne_true
    | some m =>
      have := h s hs m hw
      show ¬ (decide (many ≤ m) = true)
      rw [decide_eq_true_eq]
      omega
theorem far_snoc {many : Nat} (F : Form) (s : Std) : farL many (F ++ [s]) = farL many F ++ (s.2.filter (bigW many)).map vW := by
  unfold farL
  rw [List.flatMap_append]
  show _ ++ ((s.2.filter (bigW many)).map vW ++ []) = _
  rw [List.append_nil]
theorem far_len {many : Nat} {nt : Nat} : ∀ {F : Form}, (∀ s ∈ F, s.2.length ≤ nt) → (farL many F).length ≤ F.length * nt
  | [], _ => Nat.zero_le _
  | s :: F, h => by
    have e : farL many (s :: F) = (s.2.filter (bigW many)).map vW ++ farL many F := rfl
    have h1 := far_len (many := many) fun x hx => h x (List.mem_cons_of_mem _ hx)
    have h2 := h s List.mem_cons_self
    have h3 := List.length_filter_le (bigW many) s.2
    rw [e, List.length_append, List.length_map, List.length_cons, Nat.succ_mul]
    omega
end Law
end

section
set_option Elab.async false
set_option linter.all false
set_option maxRecDepth 100000
set_option maxHeartbeats 4000000
namespace Law
open PySem PySem.Spec PyProof.Rows L2 LamX QB QM QV
/-- what is due of a text, in a list at p -/
def DueAt (H : Hp) (p : Addr) (tags : Word) (dy : PyData) : Prop := match parseD tags dy with
  | .line iv => H p = some (.lst [.str "line", iv])
  | .eater F => ∃ b, H p = some (.lst [.str "eater", .ref b]) ∧ FormAt H b (least tags F)
theorem RdAt.due {H : Hp} {p : Addr} {tags : Word} {dy : PyData} (to : TagsOk tags) (h : RdAt H p (.list (tags.map .str)) dy) : DueAt H p tags dy := by
  unfold RdAt at h
  rw [due_none to, tagsIn_strs] at h
  exact h
/-- a standing in a list that is being made at D -/
def LineAt (D : Addr) (H : Hp) (v : V) (s : Std) : Prop := ∃ p b y, v = .ref p ∧ b ≠ D ∧ y ≠ D ∧ H p = some (.tup [.ref b, .ref y]) ∧ WordAt H b s.1 ∧ WaysAt H y s.2
theorem LineAt.same {D : Addr} {H H' : Hp} {v : V} {s : Std} (h : LineAt D H v s) (k : Same H H') : LineAt D H' v s := by
  obtain ⟨p, b, y, e, n1, n2, h1, h2, h3⟩ := h
  exact ⟨p, b, y, e, n1, n2, k _ _ h1, Same.word k h2, Same.ways k h3⟩
theorem LineAt.upd {D : Addr} {H : Hp} {v : V} {s : Std} {xs ys : List V} (h : LineAt D H v s) (hD : H D = some (.lst xs)) : LineAt D (upd H D (.lst ys)) v s := by
  obtain ⟨p, b, y, e, n1, n2, h1, h2, h3⟩ := h
  exact ⟨p, b, y, e, n1, n2, (upd_ne (ne_of h1 hD (fun z => nomatch z))).trans h1, (upd_ne n1).trans h2, (upd_ne n2).trans h3⟩
theorem line_form {D : Addr} {H : Hp} : ∀ {vs : List V} {F : Form}, Paired (LineAt D H) vs F → ∃ ts, vs = ts.map V.ref ∧ Paired (StdAt H) ts F
  | _, _, .nil => ⟨[], rfl, .nil⟩
  | _, _, .cons h r => by
    obtain ⟨p, b, y, rfl, _, _, h1, h2, h3⟩ := h
    obtain ⟨ts, e1, e2⟩ := line_form r
    exact ⟨p :: ts, by rw [e1]; rfl, .cons ⟨b, y, h1, h2, h3⟩ e2⟩
/-- no line is too long -/
def ShortLines (dy : PyData) : Prop := ∀ t, dy = .str t → ∀ u ∈ Txt.split t (Str.ofString "\n"), u.length ≤ 640
section
variable {P : Program} {w : World} {K : PySem.W.Frag} {mg : Str → Option Value} {base : Heap}
def spDue (T : List (Addr × Str)) : Sp := fun vs H Q _ => ∃ (a : Addr) (y : V) (tags : Word) (dy : PyData), vs = [.ref a, y] ∧ WordAt H a tags ∧ TagsOk tags ∧ Dv H y dy ∧ dy.weight ≤ 8000 ∧ ShortLines dy ∧ Tabs T H ∧
  ∀ p H', QB.Ext T H H' → Tabs T H' → DueAt H' p tags dy → Q (.ref p) H'
theorem ok__law_due (X : TX K mg) (TB : LamX.TabB base mg X.lam_c X.lam_P) : FnOk P w K mg base CX0 7 X.d__law_due.a X.d__law_due.fd ["tags", "text"] (spDue (Tof X)) := by
  have nd := sc__law_due.nd
  refine X.d__law_due.F.ok sc__law_due (fun vs H Q E h => ?_) (fun cdv A outer s0 H vs Q E hr h => ?_)
  · obtain ⟨a, y, tags, dy, rfl, _⟩ := h
    rfl
  · obtain ⟨a, y, tags, dy, rfl, ha, to, hy, zy, sl, tb, k⟩ := h
    refine ⟨_, (pss_cons (ps_if (pt_not (pt_val (pe_callB (QB.call_isiK K) (by rfl) X.n_isinstance QB.bo_isinstance (pa_cons (pv 1) (pa_cons (pe_bltn (v := .ty "str") (by rfl) X.n_str QB.bo_str rfl) pa_nil))))) (pss_one (ps_ret (pe_lst (pa_cons pe_str (pa_cons pe_non pa_nil))))) pss_nil) (pss_cons (ps_set (i := 2) nd rfl (Or.inr rfl) (pe_lst pa_nil)) (pss_cons (ps_for PassesOwn.never rfl (QB.pi_enumK K (by rfl) X.n_enumerate (pa_cons (pe_split (pv 1) pe_str) pa_nil)) (pg_tup (by rfl) (pgs_cons (pg_name (i := 3) nd rfl (Or.inl rfl)) (pgs_cons (pg_name (i := 4) nd rfl (Or.inl rfl)) (pgs_nil)))) (pss_cons (ps_set (i := 5) nd rfl (Or.inl rfl) (pe_call (ok__law_line_of X) (hr.mono (by decide)) rfl X.d__law_line_of.mg X.d__law_line_of.F.kp X.d__law_line_of.b .nil pass0 (pa_cons (pv 0) (pa_cons (pv 4) pa_nil)))) (pss_cons (ps_if (pt_cmpR op_isN (pv 5) pe_non (nomark _)) (pss_one (ps_ret (pe_lst (pa_cons pe_str (pa_cons (pv 3) pa_nil))))) pss_nil) (pss_one (ps_expr (QB.pe_bmK K PySem.F.plainAttrs_list PySem.F.slot_list_append PySem.F.type_list_append mt_append (pv 2) (pa_cons (pv 5) pa_nil))))))) (pss_cons (ps_set (i := 6) nd rfl (Or.inl rfl) (pe_lst pa_nil)) (pss_cons (ps_for PassesOwn.never rfl (QB.pi_listK K (pv 2)) (pg_tup (by rfl) (pgs_cons (pg_name (i := 7) nd rfl (Or.inl rfl)) (pgs_cons (pg_name (i := 8) nd rfl (Or.inl rfl)) (pgs_nil)))) (pss_one (ps_set (i := 6) nd rfl (Or.inl rfl) (pe_op op_cat (pv 6) (pe_lc (own := [("way", 9)]) (g := gName 9) rfl nd (QB.pi_listK K (pv 8)) (blkOk_by (N := ["tags", "text", "found", "k", "line", "standing", "far", "word", "ways", "way"]) (sc := defScope s__law_due) (by decide +kernel)) (fun _ _ _ _ _ => pg_name (i := 9) nd rfl (Or.inl rfl)) (fun _ _ _ _ _ => pts_one (PW.pt (pw_and (pt_cmpR op_notN (pv 9) pe_non (nomark _)) (pw_and1 (pt_cmpR op_ge (pv 9) (pe_callB (QB.call_lenK K) (by rfl) X.n_len PySem.boot_len (pa_cons (pv 2) pa_nil)) (nomark _)))))) (fun _ _ _ _ _ => (pv 9))))))) (pss_cons (ps_if (PW.pt (pw_or (pt_cmpR op_gt (pe_callB (QB.call_lenK K) (by rfl) X.n_len PySem.boot_len (pa_cons (pv 2) pa_nil)) pe_int (nomark _)) (pw_or1 (pt_cmpR (QV.op_neNil hr.units) (pv 6) (pe_lst pa_nil) (nomark _))))) (pss_one (ps_ret (pe_lst (pa_cons pe_str (pa_cons (pe_callB (QB.call_lenK K) (by rfl) X.n_len PySem.boot_len (pa_cons (pv 2) pa_nil)) pa_nil))))) pss_nil) (pss_one (ps_ret (pe_lst (pa_cons pe_str (pa_cons (pe_meth0 (pe_make X.mk_Eater (ok_Eater___init__ X TB) (hr.mono (by decide)) rfl X.m_Eater X.d_Eater___init__.b .nil pass0 (pa_cons (pv 0) (pa_cons (pv 2) pa_nil))) X.cl_Eater X.h_Eater_standings (ok_Eater_standings X) (hr.mono (by decide)) X.d_Eater_standings.b .nil pass0) pa_nil))))))))))), ?_⟩
    try dsimp only [Cx.nox, Cx.wish, cxOf]
    have htl := to.len
    unfold DueAt at k
    refine ⟨_, rfl, _, _, _, _, isSD dy, rfl, .ty "str", hy.ty K, kit_s dy, isSD dy, rfl, ?_⟩
    cases hy with
    | str t =>
      refine iteF ?_
      rw [w_str] at zy
      have k : ∀ p H', QB.Ext (Tof X) H H' → Tabs (Tof X) H' → (match parse tags t with
          | .line iv => H' p = some (.lst [.str "line", iv])
          | .eater F => ∃ b, H' p = some (.lst [.str "eater", .ref b]) ∧ FormAt H' b (least tags F)) → Q (.ref p) H' := k
      unfold parse at k
      have hs := split_le t (Str.ofString "\n")
      have hpl := sl t rfl
      have hpos := split_pos t (Str.ofString "\n") (by decide +kernel) (by decide +kernel)
      refine ⟨by show 0 ≤ sizeLine; decide, fun D hD => ?_⟩
      have s1 := same_new (o := .lst ([] : List V)) hD
      have kD : (upd H D (.lst [])) D = some (.lst []) := upd_same
      have hDN : H D = none := hD
      generalize upd H D (.lst []) = H1 at s1 kD ⊢
      refine ⟨_, rfl, ⟨_, rfl⟩, t, _, rfl, rfl, by decide, sz_le (by omega), fun q hq => ?_⟩
      have sn := same_new (o := .lst ((Txt.split t (Str.ofString "\n")).map V.str)) hq
      have s2 := s1.trans sn
      have kq : WordAt (upd H1 q (.lst ((Txt.split t (Str.ofString "\n")).map V.str))) q (Txt.split t (Str.ofString "\n")) := upd_same
      have kD2 := sn _ _ kD
      have nqD : q ≠ D := (ne_of_none kD hq).symm
      clear sn
      generalize upd H1 q (.lst ((Txt.split t (Str.ofString "\n")).map V.str)) = H2 at s2 kq kD2 ⊢
      have hs : (Txt.split t (Str.ofString "\n")).length ≤ t.length + 2 := hs
      generalize Txt.split t (Str.ofString "\n") = ls at k hs hpl hpos kq
      refine ⟨_, _, rfl, SqL.of kq, ?_⟩
      refine for_it (walk_enumW (K := K) (a := q) (w := ls)) (fun i σ H' => ∃ (v3 v4 v5 : Option V) (acc : List RowT) (vs : List V), σ = [some (.ref a), some (.str t), some (.ref D), v3, v4, v5, none, none, none, none] ∧ Same H H' ∧ WordAt H' q ls ∧ H' D = some (.lst vs) ∧ Paired (LineAt D H') vs (acc.map (rowStd tags.length)) ∧ acc.length = i ∧ (∀ y ∈ acc, RowOk tags y ∧ Inc y.2) ∧
          rowsFrom tags 0 ls = pre1 acc (rowsFrom tags i (ls.drop i)))
        ⟨_, _, _, [], [], rfl, s2, kq, kD2, .nil, rfl, (fun _ h => nomatch h), by rw [List.drop_zero]; cases rowsFrom tags 0 ls <;> rfl⟩ (fun i σ H' _ ⟨_, _, _, _, _, _, _, z, _⟩ => z) ?_ ?_
      · rintro i v σ H4 H5 hi ⟨v3, v4, v5, acc, vs, rfl, s4, wq, dD, pr, al, ro, hrd⟩ ⟨tp, x, hx, ntp, rfl, rfl⟩
        have hxl := hpl x (List.mem_of_getElem? hx)
        have ed : ls.drop i = x :: ls.drop (i + 1) := by
          obtain ⟨hlt, e⟩ := List.getElem?_eq_some_iff.mp hx
          rw [List.drop_eq_getElem_cons hlt, e]
        rw [ed, rowsFrom] at hrd
        have st := same_new (o := .tup [.int (i : Int), .str x]) ntp
        have s5 := s4.trans st
        have wq5 := Same.word st wq
        have dD5 := st _ _ dD
        have pr5 : Paired (LineAt D (upd H4 tp (.tup [.int (i : Int), .str x]))) vs (acc.map (rowStd tags.length)) := L2.Paired.mapP pr fun _ _ z => z.same st
        refine ⟨tp, _, rfl, SqT.of upd_same, rfl, _, _, rfl, _, _, rfl, rfl, ?_⟩
        generalize upd H4 tp (.tup [.int (i : Int), .str x]) = H5 at s5 wq5 dD5 pr5 ⊢
        clear st
        refine ⟨_, rfl, _, rfl, a, tags, x, rfl, Same.word s5 ha, htl, by omega, fun u H6 s6 hu => ?_⟩
        have dD6 := s6 _ _ dD5
        have s56 := s5.trans s6
        refine ⟨_, rfl, rfl, _, rfl, ?_⟩
        rcases hu with ⟨rfl, hn⟩ | ⟨p, b, y, wd, l, rfl, nb, ny, h1, h2, h3, hsome⟩
        · rw [hn] at hrd
          have hrd : rowsFrom tags 0 ls = .inl i := hrd
          rw [hrd] at k
          rw [decide_eq_true rfl]
          refine iteT ?_
          refine ⟨_, rfl, by show 2 ≤ sizeLine; decide, fun p hp => ?_⟩
          have s7 := Same.new s56 (o := .lst [V.str "line", .int (i : Int)]) hp
          exact k p _ (.of s7) (tb.ext s7) upd_same
        rw [hsome] at hrd
        dsimp only at hrd
        rw [decide_eq_false (fun z => nomatch z)]
        refine iteF ?_
        have bD : b ≠ D := fun z => by
          rw [z, dD5] at nb
          cases nb
        have yD : y ≠ D := fun z => by
          rw [z, dD5] at ny
          cases ny
        have vl : vs.length = i := by rw [paired_len pr5, List.length_map, al]
        refine ⟨_, rfl, .inl ⟨rfl, _, SqL.of dD6⟩, _, rfl, D, _, _, rfl, rfl, dD6, sz_lt (by omega), ?_⟩
        have s7 : Same H (upd H6 D (.lst (vs ++ [.ref p]))) := Same.mut s56 hDN
        have wq7 : WordAt (upd H6 D (.lst (vs ++ [.ref p]))) q ls := (upd_ne nqD).trans (Same.word s6 wq5)
        have pr7 : Paired (LineAt D (upd H6 D (.lst (vs ++ [.ref p])))) vs (acc.map (rowStd tags.length)) := L2.Paired.mapP pr5 fun _ _ z => (z.same s6).upd dD6
        have hr7 : LineAt D (upd H6 D (.lst (vs ++ [V.ref p]))) (.ref p) (rowStd tags.length (wd, l)) := LineAt.upd ⟨p, b, y, rfl, bD, yD, h1, h2, h3⟩ dD6
        refine ⟨_, _, _, acc ++ [(wd, l)], vs ++ [V.ref p], rfl, s7, wq7, upd_same, ?_, by rw [List.length_append, al]; rfl, fun y hy => ?_, ?_⟩
        · rw [List.map_append]
          exact Paired.snoc pr7 hr7
        · rcases List.mem_append.mp hy with hy | hy
          · exact ro y hy
          · rw [List.mem_singleton.mp hy]
            exact ⟨row_ok (by omega) hsome, row_inc hsome⟩
        · rw [hrd]
          cases rowsFrom tags (i + 1) (ls.drop (i + 1)) with
          | inl j => rfl
          | inr ys =>
            show Sum.inr (acc ++ (wd, l) :: ys) = Sum.inr (acc ++ [(wd, l)] ++ ys)
            rw [List.append_assoc]
            rfl
      · rintro σ H4 ⟨v3, v4, v5, acc, vs, rfl, s4, wq, dD, pr, al, ro, hrd⟩
        rw [List.drop_eq_nil_of_le (Nat.le_refl _)] at hrd
        have hrd : rowsFrom tags 0 ls = .inr (acc ++ []) := hrd
        rw [List.append_nil] at hrd
        rw [hrd] at k
        dsimp only at k
        have vl : vs.length = ls.length := by rw [paired_len pr, List.length_map, al]
        have fl : (acc.map (rowStd tags.length)).length = ls.length := by rw [List.length_map, al]
        have fw : ∀ s ∈ acc.map (rowStd tags.length), s.2.length = tags.length := fun s hs => by
          obtain ⟨y, _, rfl⟩ := List.mem_map.mp hs
          show (setAll _ _).length = _
          rw [setAll_len, List.length_replicate]
        obtain ⟨ts, e1, pF⟩ := line_form pr
        have fat : FormAt H4 D (acc.map (rowStd tags.length)) := ⟨ts, by rw [dD, e1], pF⟩
        have fq := form_eq (tags := tags) (many := ls.length) (rs := acc)
        rw [← al] at fq
        generalize hF : acc.map (rowStd tags.length) = F at pr fl fw fat fq
        refine ⟨by show 0 ≤ sizeLine; decide, fun f0 hf0 => ?_⟩
        have s5 := same_new (o := .lst ([] : List V)) hf0
        have kf0 : (upd H4 f0 (.lst [])) f0 = some (.lst (farL ls.length (F.take 0))) := upd_same
        generalize upd H4 f0 (.lst []) = H5 at s5 kf0 ⊢
        refine ⟨_, rfl, _, rfl, ⟨_, SqL.of (s5 _ _ dD)⟩, ?_⟩
        refine for_it (walk_listF (K := K) (p := D) (F := F)) (fun i σ H' => ∃ (v3 v4 v5 v7 v8 : Option V) (f : Addr), σ = [some (.ref a), some (.str t), some (.ref D), v3, v4, v5, some (.ref f), v7, v8, none] ∧ Same H4 H' ∧ H' f = some (.lst (farL ls.length (F.take i))))
          ⟨_, _, _, _, _, f0, rfl, s5, kf0⟩ (fun i σ H' _ ⟨_, _, _, _, _, _, _, z, _⟩ => Same.form z fat) ?_ ?_
        · rintro i x σ H6 H7 hi ⟨v3, v4, v5, v7, v8, f, rfl, s6, kf⟩ ⟨s, tt, p1, p2, hs', rfl, rfl, ht, hw, hy⟩
          have hm := List.mem_of_getElem? hs'
          have hwl := fw s hm
          refine ⟨tt, _, rfl, SqT.of ht, rfl, _, _, rfl, _, _, rfl, rfl, ?_⟩
          refine ⟨_, rfl, _, rfl, _, rfl, ⟨_, SqL.of hy⟩, fun D2 hD2 => ?_⟩
          refine lc_filter (walk_listWs (K := K) (a := p2) (ws := s.2)) hD2 (by omega) (fun H8 s8 => Same.ways s8 hy) (fun i => (s.2[i]?).elim .non vW) (fun i => ((s.2[i]?).map (bigW ls.length)).getD false) ?_ ?_
          · rintro j x H8 H9 kk N hj s8 ⟨wy, hwy, rfl, rfl⟩ hk1 hk2
            rw [hwy] at hk1 hk2
            have hk1 : bigW ls.length wy = true → ∀ H4, Same H9 H4 → kk (vW wy) H4 := hk1
            have hk2 : bigW ls.length wy = false → ∀ H4, Same H9 H4 → N H4 := hk2
            refine ⟨rfl, ?_⟩
            refine ⟨_, rfl, rfl, _, rfl, ?_⟩
            rw [vW_is]
            cases wy with
            | none => exact iteF (hk2 rfl _ (Same.refl _))
            | some m =>
              refine iteT ?_
              refine ⟨_, rfl, _, rfl, _, _, rfl, .inl (SqL.of (s8 _ _ (s6 _ _ dD))), _, _, rfl, rfl, _, rfl, ?_⟩
              rw [vl]
              by_cases hb : ls.length ≤ m
              · rw [decide_eq_true (by omega)]
                exact iteT ⟨_, rfl, hk1 (decide_eq_true hb) _ (Same.refl _)⟩
              · rw [decide_eq_false (by omega)]
                exact iteF (hk2 (decide_eq_false hb) _ (Same.refl _))
          · intro H8 s8 e8
            rw [filter_range (bigW ls.length) vW _ _ s.2 (fun i x hx => by rw [hx]; exact ⟨rfl, rfl⟩)] at e8
            have kf8 := s8 _ _ kf
            have fln := far_len (many := ls.length) (nt := tags.length) (F := F.take i) fun s hs => Nat.le_of_eq (fw s (List.mem_of_mem_take hs))
            have fl2 := List.length_filter_le (bigW ls.length) s.2
            have fl3 : (F.take i).length * tags.length ≤ 8100 * 6 := Nat.mul_le_mul (by rw [List.length_take]; omega) htl
            refine ⟨f, D2, _, _, rfl, rfl, kf8, e8, by rw [List.length_map]; exact sz_le (by omega), fun f2 hf2 => ?_⟩
            refine ⟨_, _, _, _, _, f2, rfl, (s6.trans s8).trans (same_new hf2), ?_⟩
            rw [upd_same]
            have et : F.take (i + 1) = F.take i ++ [s] := by rw [List.take_succ, hs']; rfl
            rw [et, far_snoc]
        · rintro σ H6 ⟨v3, v4, v5, v7, v8, f, rfl, s6, kf⟩
          rw [List.take_length] at kf
          have dD6 := s6 _ _ dD
          have s46 := s4.trans s6
          refine ⟨_, rfl, _, _, rfl, .inl (SqL.of dD6), _, _, rfl, rfl, _, rfl, ?_⟩
          rw [vl]
          have bad : ∀ {H7 : Hp}, Same H6 H7 → (∀ p H', QB.Ext (Tof X) H H' → Tabs (Tof X) H' → H' p = some (.lst [.str "line", .int (ls.length : Int)]) → Q (.ref p) H') →
              ∀ p, H7 p = none → Q (.ref p) (upd H7 p (.lst [V.str (Str.ofString "line"), .int (ls.length : Int)])) := fun {H7} s7 kb p hp =>
            kb p _ (.of (Same.new (s46.trans s7) hp)) (tb.ext (Same.new (s46.trans s7) hp)) upd_same
          rw [al] at k
          by_cases h30 : ls.length ≤ 30
          case neg =>
            rw [if_neg h30] at k
            rw [decide_eq_true (by omega)]
            refine iteT ?_
            refine ⟨_, rfl, _, _, rfl, .inl (SqL.of dD6), by show 2 ≤ sizeLine; decide, fun p hp => ?_⟩
            rw [vl]
            exact bad (Same.refl _) k p hp
          rw [if_pos h30] at k
          rw [decide_eq_false (by omega)]
          refine iteF ?_
          refine ⟨_, rfl, by show 0 ≤ sizeLine; decide, fun z hz0 => ?_⟩
          have s7 := same_new (o := .lst ([] : List V)) hz0
          refine ⟨f, z, _, rfl, rfl, s7 _ _ kf, upd_same, _, rfl, ?_⟩
          have s67 := s6.trans s7
          have s47 := s4.trans s67
          generalize upd H6 z (.lst []) = H7 at s7 s67 s47 ⊢
          rw [if_pos rfl]
          have fq := fq (by omega) ro
          rw [al] at fq
          rcases fq with ⟨near, ef⟩ | ⟨nn, ef⟩
          · rw [far_nil.mpr near]
            refine iteF ?_
            rw [ef] at k
            have k : ∀ p H', QB.Ext (Tof X) H H' → Tabs (Tof X) H' → (∃ b, H' p = some (.lst [.str "eater", .ref b]) ∧ FormAt H' b (least tags F)) → Q (.ref p) H' := k
            have fo : FormOk tags F := by
              have := formR_ok (fun y hy => (ro y hy).1) ef
              exact ⟨by omega, by omega, by rw [fl]; exact this.2⟩
            have t7 := tb.ext s47
            refine ⟨_, rfl, _, rfl, fun x dx hx hd hne => ?_⟩
            have hx' : (upd H7 dx (.own x)) x = none := (upd_ne hne.symm).trans hx
            have sM : Same H7 (upd (upd H7 dx (.own x)) x (.ins X.c_Eater dx [])) := Same.new (same_new hd) hx'
            refine ⟨x, dx, a, D, tags, F, H, rfl, upd_same, Same.word (s47.trans sM) ha, Same.form sM (Same.form s67 fat), to, fo, t7.ext sM, (QB.Ext.of s47).trans (.of sM), (QB.Ext.of (T := Tof X) s47).fresh (.of hx), fun a' b' L H' e9 t9 n9 => ⟨rfl, ?_⟩⟩
            have he := n9.at_
            have hll := least_len fo.good
            obtain ⟨dx2, ea, eb, i1, i2, i3⟩ := id he
            refine ⟨x, dx2, _, rfl, i1, rfl, ?_⟩
            refine ⟨x, tags, _, rfl, he, by omega, fun p L2 H9 s9 n10 => ?_⟩
            refine ⟨by show 2 ≤ sizeLine; decide, fun q2 hq2 => ?_⟩
            have s10 := same_new (o := .lst [V.str "eater", .ref p]) hq2
            exact k _ _ (e9.trans (.of (s9.trans s10))) (t9.ext (s9.trans s10)) ⟨p, upd_same, Same.form s10 n10.form⟩
          · rw [show (farL ls.length F).isEmpty = false from Bool.eq_false_iff.mpr fun z => nn (far_nil.mp z)]
            refine iteT ?_
            rw [ef] at k
            refine ⟨_, rfl, _, _, rfl, .inl (SqL.of (s67 _ _ dD)), by show 2 ≤ sizeLine; decide, fun p hp => ?_⟩
            rw [vl]
            exact bad s7 k p hp
    | _ =>
      refine iteT ?_
      refine ⟨by show 2 ≤ sizeLine; decide, fun p hp => ?_⟩
      have s1 := same_new (o := .lst [V.str "line", .non]) hp
      exact k p _ (.of s1) (tb.ext s1) upd_same
end
end Law
end

section
set_option Elab.async false
set_option linter.all false
set_option maxRecDepth 100000
set_option maxHeartbeats 4000000
namespace Law
open PySem PySem.Spec PyProof.Rows L2 LamX QB QM QV
open TL
theorem name_sign {t : Str} (h : NameOk t) : ∀ c ∈ tl t, 97 ≤ c ∧ c ≤ 122 := fun c hc => by
  have all : ∀ x ∈ letters.cps.toList, (decide (97 ≤ x) && decide (x ≤ 122)) = true := by decide +kernel
  have := all c (h.all c hc)
  rw [Bool.and_eq_true, decide_eq_true_eq, decide_eq_true_eq] at this
  exact this
theorem numS_all {n : Nat} (h : n < 100) : numeral (numS n) = true ∧ numOf (numS n) = n ∧ (numS n).length ≤ 2 ∧ ∀ c ∈ tl (numS n), 48 ≤ c ∧ c ≤ 57 := by
  have all : ∀ i : Fin 100, numeral (numS i.val) = true ∧ numOf (numS i.val) = i.val ∧ (numS i.val).length ≤ 2 ∧ ∀ c ∈ tl (numS i.val), 48 ≤ c ∧ c ≤ 57 := by decide +kernel
  exact all ⟨n, h⟩
/-- the part of a way -/
def partT (t : Str) (n : Nat) : Str := t ++ Str.ofString "=" ++ numS n
def partsT : Word → Ways → List Str
  | t :: ts, some n :: ws => partT t n :: partsT ts ws
  | _ :: ts, none :: ws => partsT ts ws
  | _, _ => []
def rowFrom : Nat → Word → Ways → List (Nat × Str)
  | k, _ :: ts, some n :: ws => (k, numS n) :: rowFrom (k + 1) ts ws
  | k, _ :: ts, none :: ws => rowFrom (k + 1) ts ws
  | _, _, _ => []
theorem tl_wayT (t : Str) (n : Nat) : tl (wayT t n) = 32 :: tl (partT t n) := by
  unfold wayT partT
  simp only [tl_append]
  rfl
theorem told_parts : ∀ (ts : Word) (ws : Ways), (toldL ts ws).map tl = (partsT ts ws).map fun p => 32 :: tl p
  | [], ws => by
    unfold toldL
    rw [List.zip_nil_left]
    rfl
  | t :: ts, [] => by
    unfold toldL
    rw [List.zip_nil_right]
    rfl
  | t :: ts, none :: ws => told_parts ts ws
  | t :: ts, some n :: ws => by
    have e : toldL (t :: ts) (some n :: ws) = wayT t n :: toldL ts ws := rfl
    rw [e, List.map_cons, tl_wayT, told_parts ts ws]
    rfl
theorem join_sp (p : List Nat) : ∀ l : List (List Nat), joinL [32] (p :: l) = p ++ (l.map fun q => 32 :: q).flatten
  | [] => (List.append_nil p).symm
  | q :: l => by
    have e : joinL [32] (p :: q :: l) = p ++ ([32] ++ joinL [32] (q :: l)) := rfl
    rw [e, join_sp q l]
    rfl
/-- the text of the ways: no sign, or a space and the parts -/
theorem ways_text (ts : Word) (ws : Ways) : (partsT ts ws = [] ∧ tl (Txt.join (Str.ofString "") (toldL ts ws)) = []) ∨
    (partsT ts ws ≠ [] ∧ tl (Txt.join (Str.ofString "") (toldL ts ws)) = 32 :: tl (Txt.join (Str.ofString " ") (partsT ts ws))) := by
  rw [joinE_tl, told_parts, join_eq, tl_join]
  cases partsT ts ws with
  | nil => exact .inl ⟨rfl, rfl⟩
  | cons p l =>
    refine .inr ⟨(fun z => nomatch z), ?_⟩
    have e : tl (Str.ofString " ") = [32] := by decide +kernel
    rw [e, List.map_cons, List.map_cons, join_sp, List.map_map]
    rfl
theorem partT_sign {t : Str} {n : Nat} (ht : NameOk t) (hn : n < 100) : ∀ c ∈ tl (partT t n), c ≠ 32 ∧ c ≠ 10 ∧ c ≠ 58 := fun c hc => by
  unfold partT at hc
  have ee : tl (Str.ofString "=") = [61] := by decide +kernel
  rw [tl_append, tl_append, ee, List.mem_append, List.mem_append, List.mem_singleton] at hc
  rcases hc with (hc | rfl) | hc
  · have := name_sign ht c hc
    omega
  · decide
  · have := (numS_all hn).2.2.2 c hc
    omega
theorem partsT_mem : ∀ {ts : Word} {ws : Ways} {p : Str}, p ∈ partsT ts ws → ∃ t n, p = partT t n ∧ t ∈ ts ∧ some n ∈ ws
  | [], _, _, h => by
    unfold partsT at h
    cases h
  | _ :: _, [], _, h => by
    unfold partsT at h
    cases h
  | t :: ts, none :: ws, p, h => by
    obtain ⟨t', n, a, b, c⟩ := partsT_mem (ts := ts) (ws := ws) h
    exact ⟨t', n, a, List.mem_cons_of_mem _ b, List.mem_cons_of_mem _ c⟩
  | t :: ts, some n :: ws, p, h => by
    rcases List.mem_cons.mp h with rfl | h
    · exact ⟨t, n, rfl, List.mem_cons_self, List.mem_cons_self⟩
    · obtain ⟨t', n, a, b, c⟩ := partsT_mem (ts := ts) (ws := ws) h
      exact ⟨t', n, a, List.mem_cons_of_mem _ b, List.mem_cons_of_mem _ c⟩
theorem way_back {tags : Word} {t : Str} {n : Nat} (ht : NameOk t) (hm : t ∈ tags) (hn : n < 100) : rdWay tags (partT t n) = some (tags.idxOf t, numS n) := by
  have ee : tl (Str.ofString "=") = 61 :: [] := by decide +kernel
  have hp : Txt.partition (partT t n) (Str.ofString "=") = (t, Str.ofString "=", numS n) := partition_app (s := 61) (S := []) ee fun z => by
    have := name_sign ht 61 z
    omega
  unfold rdWay
  rw [hp, if_pos ⟨hm, (numS_all hn).1⟩]
theorem parts_back {tags : Word} (to : TagsOk tags) : ∀ (ts : Word) (ws : Ways) (pre : Word) (last : Int), tags = pre ++ ts → last < (pre.length : Int) → (∀ m, some m ∈ ws → m < 100) →
    rdParts tags last (partsT ts ws) = some (rowFrom pre.length ts ws)
  | [], _, _, _, _, _, _ => by
    unfold partsT rowFrom
    rfl
  | _ :: _, [], _, _, _, _, _ => by
    unfold partsT rowFrom
    rfl
  | t :: ts, none :: ws, pre, last, e, hl, h => by
    have := parts_back to ts ws (pre ++ [t]) last (by rw [e, List.append_assoc]; rfl) (by rw [List.length_append]; show last < ((pre.length + 1 : Nat) : Int); omega) (fun m hm => h m (List.mem_cons_of_mem _ hm))
    rw [List.length_append] at this
    exact this
  | t :: ts, some n :: ws, pre, last, e, hl, h => by
    have hm : t ∈ tags := by
      rw [e]
      exact List.mem_append_right _ List.mem_cons_self
    have h100 := h n List.mem_cons_self
    have wb := way_back (to.names t hm) hm h100
    have ix : tags.idxOf t = pre.length := by
      have g1 : tags[pre.length]? = some t := by
        rw [e, List.getElem?_append_right (Nat.le_refl _), Nat.sub_self]
        rfl
      have lt := List.idxOf_lt_length_of_mem hm
      have g2 : tags[tags.idxOf t]? = some t := by
        rw [List.getElem?_eq_getElem lt, List.getElem_idxOf lt]
      exact nd_ix to.nd g2 g1
    have e2 : partsT (t :: ts) (some n :: ws) = partT t n :: partsT ts ws := rfl
    have := parts_back to ts ws (pre ++ [t]) (pre.length : Int) (by rw [e, List.append_assoc]; rfl) (by rw [List.length_append]; show (pre.length : Int) < ((pre.length + 1 : Nat) : Int); omega) (fun m hm => h m (List.mem_cons_of_mem _ hm))
    rw [List.length_append] at this
    rw [e2, rdParts, wb]
    dsimp only
    rw [ix, if_neg (by omega), this]
    rfl
theorem set_back : ∀ (ts : Word) (ws : Ways) (pre : Ways), ws.length = ts.length → (∀ m, some m ∈ ws → m < 100) → setAll (pre ++ List.replicate ws.length none) (rowFrom pre.length ts ws) = pre ++ ws
  | [], [], _, _, _ => by
    unfold rowFrom
    rfl
  | [], _ :: _, _, h, _ => by cases h
  | _ :: _, [], _, h, _ => by cases h
  | t :: ts, none :: ws, pre, h, hm => by
    have := set_back ts ws (pre ++ [none]) (by simpa using h) (fun m h => hm m (List.mem_cons_of_mem _ h))
    rw [List.length_append, List.append_assoc, List.append_assoc] at this
    exact this
  | t :: ts, some n :: ws, pre, h, hm => by
    have := set_back ts ws (pre ++ [some n]) (by simpa using h) (fun m h => hm m (List.mem_cons_of_mem _ h))
    rw [List.length_append, List.append_assoc, List.append_assoc] at this
    have e : setAll (pre ++ List.replicate (ws.length + 1) none) (rowFrom pre.length (t :: ts) (some n :: ws)) = setAll ((pre ++ List.replicate (ws.length + 1) none).set pre.length (some (numOf (numS n)))) (rowFrom (pre.length + 1) ts ws) := rfl
    rw [List.length_cons, e, (numS_all (hm n List.mem_cons_self)).2.1]
    rw [List.set_append_right _ _ (Nat.le_refl _), Nat.sub_self]
    exact this
theorem row_num : ∀ {ts : Word} {ws : Ways} {k : Nat}, ∀ x ∈ rowFrom k ts ws, ∃ n, some n ∈ ws ∧ x.2 = numS n
  | [], _, _, _, h => by
    unfold rowFrom at h
    cases h
  | _ :: _, [], _, _, h => by
    unfold rowFrom at h
    cases h
  | _ :: ts, none :: ws, k, x, h => by
    obtain ⟨n, a, b⟩ := row_num (ts := ts) (ws := ws) x h
    exact ⟨n, List.mem_cons_of_mem _ a, b⟩
  | _ :: ts, some n :: ws, k, x, h => by
    rcases List.mem_cons.mp h with rfl | h
    · exact ⟨n, List.mem_cons_self, rfl⟩
    · obtain ⟨n, a, b⟩ := row_num (ts := ts) (ws := ws) x h
      exact ⟨n, List.mem_cons_of_mem _ a, b⟩
theorem writ_sign {tags wd : Word} (to : TagsOk tags) (h : ∀ t ∈ wd, t ∈ tags) : ∀ c ∈ tl (writ wd), c ≠ 10 ∧ c ≠ 58 := fun c hc => by
  unfold writ at hc
  by_cases e : wd = []
  · rw [if_pos e] at hc
    have all : ∀ x ∈ tl (Str.ofString "-"), x ≠ 10 ∧ x ≠ 58 := by decide +kernel
    exact all c hc
  · rw [if_neg e] at hc
    have hc : c ∈ tl (Txt.join (Str.ofString " ") wd) := hc
    rw [join_eq, tl_join] at hc
    have es : tl (Str.ofString " ") = [32] := by decide +kernel
    rw [es] at hc
    cases wd with
    | nil => exact absurd rfl e
    | cons t wd =>
      rw [List.map_cons, join_sp, List.mem_append, List.mem_flatten] at hc
      rcases hc with hc | ⟨l, hl, hc⟩
      · have := name_sign (to.names t (h t List.mem_cons_self)) c hc
        omega
      · obtain ⟨q, hq, rfl⟩ := List.mem_map.mp hl
        obtain ⟨u, hu, rfl⟩ := List.mem_map.mp hq
        rcases List.mem_cons.mp hc with rfl | hc
        · decide
        · have := name_sign (to.names u (h u (List.mem_cons_of_mem _ hu))) c hc
          omega
theorem rd_writ {tags wd : Word} {most : Nat} (to : TagsOk tags) (hl : wd.length ≤ most) (h : ∀ t ∈ wd, t ∈ tags) : rd tags most (writ wd) = some wd := by
  unfold rd writ
  by_cases e : wd = []
  · subst e
    rfl
  rw [if_neg e]
  have es : tl (Str.ofString " ") = 32 :: [] := by decide +kernel
  have hs : Txt.split (Txt.join (Str.ofString " ") wd) (Str.ofString " ") = wd := split_join (s := 32) (S := []) es (by decide +kernel) e fun p hp z => by
    have := name_sign (to.names p (h p hp)) 32 z
    omega
  have hne : Txt.join (Str.ofString " ") wd ≠ Str.ofString "-" := fun z => by
    rw [z] at hs
    have e2 : Txt.split (Str.ofString "-") (Str.ofString " ") = [Str.ofString "-"] := by
      refine map_tl_inj ?_
      rw [split_spl _ _ (by decide +kernel) (kind_ok (by decide +kernel))]
      decide +kernel
    rw [e2] at hs
    have hm : Str.ofString "-" ∈ wd := by
      rw [← hs]
      exact List.mem_singleton.mpr rfl
    have := name_sign (to.names _ (h _ hm)) 45 (by decide +kernel)
    omega
  show (if Txt.join (Str.ofString " ") wd = Str.ofString "-" then some [] else if (Txt.split (Txt.join (Str.ofString " ") wd) (Str.ofString " ")).length ≤ most ∧ ∀ u ∈ Txt.split (Txt.join (Str.ofString " ") wd) (Str.ofString " "), u ∈ tags then some (Txt.split (Txt.join (Str.ofString " ") wd) (Str.ofString " ")) else none) = _
  rw [if_neg hne, hs, if_pos ⟨hl, h⟩]
theorem ways_back {tags : Word} {ws : Ways} (to : TagsOk tags) (h : ∀ m, some m ∈ ws → m < 100) : rdWays tags (Txt.join (Str.ofString "") (toldL tags ws)) = some (rowFrom 0 tags ws) := by
  have pb := parts_back to tags ws [] (-1) rfl (by decide) h
  unfold rdWays
  rcases ways_text tags ws with ⟨e1, e2⟩ | ⟨e1, e2⟩
  · have e2 : (Txt.join (Str.ofString "") (toldL tags ws)).cps.toList = [] := e2
    rw [e2]
    rw [e1] at pb
    exact pb
  · have e3 : (Txt.join (Str.ofString "") (toldL tags ws)).cps.toList = 32 :: tl (Txt.join (Str.ofString " ") (partsT tags ws)) := e2
    rw [e3]
    show (if 32 = 32 then rdParts tags (-1) (Txt.split (cutS (Txt.join (Str.ofString "") (toldL tags ws)) (some ((1 : Nat) : Int)) none) (Str.ofString " ")) else none) = _
    rw [if_pos rfl]
    have e4 : cutS (Txt.join (Str.ofString "") (toldL tags ws)) (some ((1 : Nat) : Int)) none = Txt.join (Str.ofString " ") (partsT tags ws) := ext_tl (by rw [QT.tl_cutR, e2]; rfl)
    have es : tl (Str.ofString " ") = 32 :: [] := by decide +kernel
    rw [e4, split_join (s := 32) (S := []) es (by decide +kernel) e1 fun p hp z => by
      obtain ⟨t, n, rfl, ht, hn⟩ := partsT_mem hp
      exact (partT_sign (to.names t ht) (h n hn) 32 z).1 rfl]
    exact pb
theorem line_back {tags : Word} {s : Std} (to : TagsOk tags) (h1 : s.1.length ≤ 8) (h2 : ∀ t ∈ s.1, t ∈ tags) (h : ∀ m, some m ∈ s.2 → m < 100) : rdLine tags (lineT tags s) = some (s.1, rowFrom 0 tags s.2) := by
  unfold rdLine lineT
  have ec : tl (Str.ofString ":") = 58 :: [] := by decide +kernel
  have hp : Txt.partition (writ s.1 ++ Str.ofString ":" ++ Txt.join (Str.ofString "") (toldL tags s.2)) (Str.ofString ":") = (writ s.1, Str.ofString ":", Txt.join (Str.ofString "") (toldL tags s.2)) :=
    partition_app (s := 58) (S := []) ec fun z => (writ_sign to h2 58 z).2 rfl
  have hp : Txt.partition (writ s.1 ++ Str.ofString ":" ++ Txt.join (Str.ofString "") (toldL tags s.2)) ":" = (writ s.1, Str.ofString ":", Txt.join (Str.ofString "") (toldL tags s.2)) := hp
  rw [hp]
  show (if (Str.ofString ":").length = 0 then none else match rd tags 8 (writ s.1), rdWays tags (Txt.join (Str.ofString "") (toldL tags s.2)) with
    | some wd, some l => some (wd, l)
    | _, _ => none) = _
  rw [if_neg (by decide), rd_writ to h1 h2, ways_back to h]
theorem line_sign {tags : Word} {s : Std} (to : TagsOk tags) (h2 : ∀ t ∈ s.1, t ∈ tags) (h : ∀ m, some m ∈ s.2 → m < 100) : ∀ c ∈ tl (lineT tags s), c ≠ 10 := fun c hc => by
  unfold lineT at hc
  have ec : tl (Str.ofString ":") = [58] := by decide +kernel
  rw [tl_append, tl_append, ec, List.mem_append, List.mem_append, List.mem_singleton] at hc
  rcases hc with (hc | rfl) | hc
  · exact (writ_sign to h2 c hc).1
  · decide
  · rw [joinE_tl, told_parts, List.mem_flatten] at hc
    obtain ⟨l, hl, hc⟩ := hc
    obtain ⟨p, hp, rfl⟩ := List.mem_map.mp hl
    rcases List.mem_cons.mp hc with rfl | hc
    · decide
    · obtain ⟨t, n, rfl, ht, hn⟩ := partsT_mem hp
      exact (partT_sign (to.names t ht) (h n hn) c hc).2.1
theorem rows_back {tags : Word} (to : TagsOk tags) : ∀ (F : Form) (k : Nat), (∀ s ∈ F, s.1.length ≤ 8 ∧ (∀ t ∈ s.1, t ∈ tags) ∧ ∀ m, some m ∈ s.2 → m < 100) → rowsFrom tags k (F.map (lineT tags)) = .inr (F.map fun s => (s.1, rowFrom 0 tags s.2))
  | [], _, _ => rfl
  | s :: F, k, h => by
    obtain ⟨h1, h2, h3⟩ := h s List.mem_cons_self
    rw [List.map_cons, rowsFrom, line_back to h1 h2 h3]
    dsimp only
    rw [rows_back to F (k + 1) fun s hs => h s (List.mem_cons_of_mem _ hs)]
    rfl
theorem form_back {tags : Word} {many : Nat} (hm : many ≤ 100) : ∀ (F : Form), (∀ s ∈ F, s.2.length = tags.length ∧ ∀ m, some m ∈ s.2 → m < many) → formR many tags.length (F.map fun s => (s.1, rowFrom 0 tags s.2)) = some F
  | [], _ => rfl
  | s :: F, h => by
    obtain ⟨h1, h2⟩ := h s List.mem_cons_self
    have sb := set_back tags s.2 [] h1 fun m hm' => by have := h2 m hm'; omega
    have sb : setAll (List.replicate tags.length none) (rowFrom 0 tags s.2) = s.2 := by
      rw [h1] at sb
      exact sb
    rw [List.map_cons, formR, among_eq hm _ _ (fun x hx => by
      obtain ⟨n, hn, e⟩ := row_num x hx
      rw [e]
      exact (numS_all (by have := h2 n hn; omega)).1), if_pos (fun x hx => by
      obtain ⟨n, hn, e⟩ := row_num x hx
      rw [e, (numS_all (by have := h2 n hn; omega)).2.1]
      exact h2 n hn), sb, form_back hm F fun s hs => h s (List.mem_cons_of_mem _ hs)]
theorem FormOk.text {tags : Word} {F : Form} (f : FormOk tags F) : FormT tags F := ⟨f.len, fun s hs => ⟨(f.all s hs).len, (f.all s hs).sub⟩, fun s hs => ⟨(f.all s hs).ways, fun m hm => by have := (f.all s hs).to m hm; have := f.len; omega⟩⟩
/-- what was written is read -/
theorem parse_back {tags : Word} {F : Form} (to : TagsOk tags) (f : FormOk tags F) : parse tags (eaterT tags F) = .eater F := by
  have ft := f.text
  have fl := f.len
  have en : tl (Str.ofString "\n") = 10 :: [] := by decide +kernel
  have ne : F.map (lineT tags) ≠ [] := fun z => by
    have := f.pos
    rw [List.map_eq_nil_iff.mp z] at this
    exact absurd this (by decide)
  have hs : Txt.split (eaterT tags F) (Str.ofString "\n") = F.map (lineT tags) := split_join (s := 10) (S := []) en (by decide +kernel) ne fun p hp z => by
    obtain ⟨s, hs, rfl⟩ := List.mem_map.mp hp
    exact line_sign to (ft.words s hs).2 (ft.ways s hs).2 10 z rfl
  unfold parse
  rw [hs, rows_back to F 0 fun s hs => ⟨(ft.words s hs).1, (ft.words s hs).2, (ft.ways s hs).2⟩]
  dsimp only
  rw [List.length_map, if_pos fl, form_back (by omega) F fun s hs => ⟨(f.all s hs).ways, (f.all s hs).to⟩]
theorem eaterT_len {tags : Word} {F : Form} (to : TagsOk tags) (ft : FormT tags F) : (eaterT tags F).length ≤ F.length * 201 := by
  have b1 : ((F.map (lineT tags)).map (·.length)).sum ≤ (F.map (lineT tags)).length * 200 := sum_le (fun t : Str => t.length) 200 fun t ht => by
    obtain ⟨s, hs, rfl⟩ := List.mem_map.mp ht
    exact line_len to (ft.words s hs).1 (ft.words s hs).2 (ft.ways s hs).2
  have := join_len (Str.ofString "\n") (F.map (lineT tags))
  have en : (Str.ofString "\n").length = 1 := by decide +kernel
  rw [List.length_map, en] at this
  rw [List.length_map] at b1
  unfold eaterT
  omega
end Law
end

section
set_option Elab.async false
set_option linter.all false
set_option maxRecDepth 100000
set_option maxHeartbeats 4000000
namespace Law
open PySem PySem.Spec PyProof.Rows L2 LamX QB QM
section
variable {P : Program} {w : World} {K : PySem.W.Frag} {mg : Str → Option Value} {base : Heap}

/-! ### what stays, but for some lists -/
def Exc (M : List Addr) (H H' : Hp) : Prop := ∀ a o, a ∉ M → H a = some o → H' a = some o
theorem Exc.refl {M : List Addr} {H : Hp} : Exc M H H := fun _ _ _ h => h
theorem Exc.trans {M : List Addr} {H H1 H2 : Hp} (a : Exc M H H1) (b : Exc M H1 H2) : Exc M H H2 := fun c o n h => b c o n (a c o n h)
theorem Exc.of {M : List Addr} {H H' : Hp} (a : Same H H') : Exc M H H' := fun c o _ h => a c o h
theorem Exc.mono {M N : List Addr} {H H' : Hp} (a : Exc M H H') (h : ∀ x ∈ M, x ∈ N) : Exc N H H' := fun c o n e => a c o (fun z => n (h c z)) e
theorem Exc.new {M : List Addr} {H H' : Hp} {p : Addr} {o : HO} (a : Exc M H H') (h : H' p = none) : Exc M H (upd H' p o) := a.trans (.of (same_new h))
theorem Exc.mut {M : List Addr} {H H' : Hp} {p : Addr} {o : HO} (a : Exc M H H') (h : p ∈ M ∨ H p = none) : Exc M H (upd H' p o) := fun c u n e => by
  have : c ≠ p := fun z => by
    subst z
    rcases h with h | h
    · exact n h
    · rw [h] at e
      cases e
  rw [upd_ne this]
  exact a c u n e
theorem Exc.free {M : List Addr} {H H' : Hp} {p : Addr} (a : Exc M H H') (h : H' p = none) (n : p ∉ M) : H p = none := by
  cases e : H p with
  | none => rfl
  | some o =>
    rw [a p o n e] at h
    cases h
/-- the pile of draws -/
def PileAt (H : Hp) (p : Addr) : Prop := ∃ d c n : Int, H p = some (.lst [.int d, .int c, .int n])
theorem PileAt.free {H H' : Hp} {p q : Addr} (a : Exc [p] H H') (h : PileAt H p) (h' : PileAt H' p) (e : H' q = none) : H q = none := by
  have : q ≠ p := fun z => by
    subst z
    obtain ⟨_, _, _, h⟩ := h'
    rw [h] at e
    cases e
  exact a.free e (by simpa using this)

def spMixed : Sp := fun vs H Q _ => ∃ c k : Int, vs = [.int c, .int k] ∧ ∀ r : Int, Q (.int r) H
theorem emod_lt {i j : Int} (h : 0 < j) : 0 ≤ i % j ∧ i % j < j := ⟨Int.emod_nonneg i (by omega), Int.emod_lt_of_pos i h⟩
theorem ok__law_mixed (X : TX K mg) : FnOk P w K mg base CX0 1 X.d__law_mixed.a X.d__law_mixed.fd ["cell", "k"] spMixed := by
  have nd := sc__law_mixed.nd
  refine X.d__law_mixed.F.ok sc__law_mixed (fun vs H Q E h => ?_) (fun cdv A outer s H vs Q E hr h => ?_)
  · obtain ⟨c, k, rfl, _⟩ := h
    rfl
  · obtain ⟨c, k, rfl, q⟩ := h
    refine ⟨_, (pss_cons (ps_set (i := 2) nd rfl (Or.inl rfl) (pe_op op_mod (pe_op op_add (pe_op op_add (pe_op op_mul (pe_op op_mod (pe_callTy call_int1 (by rfl) X.n_int QB.bo_int (pa_cons (pv 0) pa_nil)) pe_int) pe_int) (pe_op op_mul (pv 1) pe_int)) pe_int) pe_int)) (pss_cons (ps_set (i := 2) nd rfl (Or.inl rfl) (pe_op op_mod (pe_op op_mul (pv 2) (pv 2)) pe_int)) (pss_one (ps_ret (pe_op op_fdiv (pe_op op_mod (pe_op op_mul (pv 2) (pv 2)) pe_int) pe_int))))), ?_⟩
    try dsimp only [Cx.nox, Cx.wish, cxOf]
    have m1 : (0 : Int) < 2147483647 := by decide
    have m2 : (0 : Int) < 2147483629 := by decide
    have m3 : (0 : Int) < 2147483587 := by decide
    refine ⟨_, rfl, .inl ⟨_, rfl, _, _, rfl, rfl, m1, _, _, rfl, rfl, .inr ⟨by decide, by decide⟩, _, rfl, _, _, rfl, rfl, .inr ⟨by decide, by decide⟩, _, _, rfl, rfl, _, _, rfl, rfl, _, _, rfl, rfl, m1, ?_⟩⟩
    refine ⟨_, rfl, _, rfl, _, _, rfl, rfl, ?_, _, _, rfl, rfl, m2, ?_⟩
    · have := emod_lt (i := c % 2147483647 * 48271 + k * 69621 + 11) m1
      refine .inl ⟨?_, ?_⟩ <;> omega
    refine ⟨_, rfl, _, rfl, _, _, rfl, rfl, ?_, _, _, rfl, rfl, m3, ?_⟩
    · have := emod_lt (i := (c % 2147483647 * 48271 + k * 69621 + 11) % 2147483647 * ((c % 2147483647 * 48271 + k * 69621 + 11) % 2147483647)) m2
      refine .inl ⟨?_, ?_⟩ <;> omega
    exact ⟨_, _, rfl, rfl, ⟨by decide, by decide⟩, q _⟩
theorem mul50 : CMulW ((10 : Int) ^ Int.toNat 50) ((10 : Int) ^ Int.toNat 50) := wide_mul (a := 200) (b := 200) (by decide +kernel) (by decide +kernel) (by decide) (by decide) (by decide)
theorem mul100 : CMulW ((10 : Int) ^ Int.toNat 50 * (10 : Int) ^ Int.toNat 50) ((10 : Int) ^ Int.toNat 50) := wide_mul (a := 400) (b := 200) (by decide +kernel) (by decide +kernel) (by decide) (by decide) (by decide)
theorem pos150 : (0 : Int) < (10 : Int) ^ Int.toNat 50 * (10 : Int) ^ Int.toNat 50 * (10 : Int) ^ Int.toNat 50 := by decide +kernel
def spPile (K : PySem.W.Frag) : Sp := fun vs H Q _ => ∃ (l : Addr) (ns : List Int) (k : Nat), vs = [.ref l, .int (k : Int)] ∧ SqL K H l (ns.map V.int) ∧ ∀ (p : Addr) (H' : Hp), Same H H' → H p = none → PileAt H' p → Q (.ref p) H'
theorem ok__law_pile (X : TX K mg) : FnOk P w K mg base CX0 3 X.d__law_pile.a X.d__law_pile.fd ["script", "k"] (spPile K) := by
  have nd := sc__law_pile.nd
  refine X.d__law_pile.F.ok sc__law_pile (fun vs H Q E h => ?_) (fun cdv A outer s H vs Q E hr h => ?_)
  · obtain ⟨l, ns, k, rfl, _⟩ := h
    rfl
  · obtain ⟨l, ns, k, rfl, hl, q⟩ := h
    refine ⟨_, (pss_cons (ps_set (i := 2) nd rfl (Or.inl rfl) pe_int) (pss_cons (ps_if (pt_cmpR op_lt (pv 1) (pe_callB (QB.call_lenK K) (by rfl) X.n_len PySem.boot_len (pa_cons (pv 0) pa_nil)) (nomark _)) (pss_one (ps_set (i := 2) nd rfl (Or.inl rfl) (pe_ix (QB.ix_listK K) (pv 0) (pv 1) (fun _ _ => rfl)))) pss_nil) (pss_cons (ps_set (i := 3) nd rfl (Or.inl rfl) (pe_op op_mod (pe_callTy call_int1 (by rfl) X.n_int QB.bo_int (pa_cons (pv 2) pa_nil)) (pe_op op_mulW (pe_op op_mulW (pe_op op_pow pe_int pe_int) (pe_op op_pow pe_int pe_int)) (pe_op op_pow pe_int pe_int)))) (pss_one (ps_ret (pe_lst (pa_cons (pe_op op_mul (pv 3) (pe_callTy call_int1 (by rfl) X.n_int QB.bo_int (pa_cons (pe_cmpR op_ge (pe_callB call_abs (by rfl) X.n_abs QB.bo_abs (pa_cons (pv 2) pa_nil)) (pe_op op_pow pe_int pe_int) (nomark _)) pa_nil))) (pa_cons (pe_op op_mod (pe_callTy call_int1 (by rfl) X.n_int QB.bo_int (pa_cons (pv 2) pa_nil)) pe_int) (pa_cons (pe_op op_mul pe_int (pv 1)) pa_nil))))))))), ?_⟩
    try dsimp only [Cx.nox, Cx.wish, cxOf]
    refine ⟨_, rfl, _, rfl, _, _, rfl, .inl hl, ?_⟩
    refine ⟨_, _, rfl, rfl, _, rfl, ?_⟩
    by_cases hj : k < ns.length
    case' pos =>
      rw [decide_eq_true (by rw [List.length_map]; omega)]
      refine iteT ?_
      refine ⟨_, rfl, _, rfl, l, ns.map V.int, (k : Int), _, rfl, rfl, hl, atI_nat (v := V.int (ns[k]'hj)) (by rw [List.getElem?_map, List.getElem?_eq_getElem hj]; rfl), ?_⟩
      generalize ns[k]'hj = c
    case' neg =>
      rw [decide_eq_false (by rw [List.length_map]; omega)]
      refine iteF ?_
    all_goals
      refine ⟨_, rfl, .inl ⟨_, rfl, ?_⟩⟩
      refine ⟨_, _, rfl, rfl, ⟨by decide, by decide, by decide⟩, _, _, rfl, rfl, ⟨by decide, by decide, by decide⟩, _, _, rfl, rfl, mul50, _, _, rfl, rfl, ⟨by decide, by decide, by decide⟩, _, _, rfl, rfl, mul100, _, _, rfl, rfl, pos150, ?_⟩
      refine ⟨_, rfl, _, rfl, _, rfl, _, _, rfl, rfl, ⟨by decide, by decide, by decide⟩, _, _, rfl, rfl, .inr ⟨_, rfl, ?_⟩⟩
      generalize decide ((10 : Int) ^ Int.toNat 18 ≤ _) = bb
      cases bb <;>
      · refine ⟨_, _, rfl, rfl, .inr ⟨by decide, by decide⟩, ?_⟩
        refine ⟨_, rfl, .inl ⟨_, rfl, _, _, rfl, rfl, by show (0 : Int) < 2147483647; decide, _, rfl, _, _, rfl, rfl, .inl ⟨by decide, by decide⟩, by show 3 ≤ sizeLine; decide, fun p hp => ?_⟩⟩
        exact q p _ (same_new hp) hp ⟨_, _, _, upd_same⟩
def spTake : Sp := fun vs H Q _ => ∃ (p : Addr) (m : Nat), vs = [.ref p, .int (m : Int)] ∧ 0 < m ∧ m ≤ 1000 ∧ PileAt H p ∧ ∀ (r : Nat) (H' : Hp), r < m → Exc [p] H H' → PileAt H' p → Q (.int (r : Int)) H'
theorem nat_of_mod {i : Int} {m : Nat} (h : 0 < m) : ∃ r : Nat, r < m ∧ i % (m : Int) = (r : Int) := by
  have := emod_lt (i := i) (show (0 : Int) < (m : Int) by omega)
  exact ⟨(i % (m : Int)).toNat, by omega, by omega⟩
theorem ok__law_take (X : TX K mg) : FnOk P w K mg base CX0 3 X.d__law_take.a X.d__law_take.fd ["pile", "many"] spTake := by
  have nd := sc__law_take.nd
  refine X.d__law_take.F.ok sc__law_take (fun vs H Q E h => ?_) (fun cdv A outer s H vs Q E hr h => ?_)
  · obtain ⟨p, m, rfl, _⟩ := h
    rfl
  · obtain ⟨p, m, rfl, m0, m1, ⟨d, c, n, hp⟩, q⟩ := h
    refine ⟨_, (pss_cons (ps_if (pt_cmpR op_eq (pe_ix (QB.ix_listK K) (pv 0) pe_int (fun _ _ => rfl)) pe_int (nomark _)) (pss_cons (ps_asg (pe_op op_add (pe_ix (QB.ix_listK K) (pv 0) pe_int (fun _ _ => rfl)) pe_int) (pg_sub (pv 0) pe_int set_list)) (pss_one (ps_ret (pe_op op_mod (pe_call (ok__law_mixed X) (hr.mono (by decide)) rfl X.d__law_mixed.mg X.d__law_mixed.F.kp X.d__law_mixed.b .nil pass0 (pa_cons (pe_ix (QB.ix_listK K) (pv 0) pe_int (fun _ _ => rfl)) (pa_cons (pe_ix (QB.ix_listK K) (pv 0) pe_int (fun _ _ => rfl)) pa_nil))) (pv 1))))) pss_nil) (pss_cons (ps_set (i := 2) nd rfl (Or.inl rfl) (pe_op op_mod (pe_callTy call_int1 (by rfl) X.n_int QB.bo_int (pa_cons (pe_ix (QB.ix_listK K) (pv 0) pe_int (fun _ _ => rfl)) pa_nil)) (pv 1))) (pss_cons (ps_asg (pe_op op_fdiv (pe_ix (QB.ix_listK K) (pv 0) pe_int (fun _ _ => rfl)) (pv 1)) (pg_sub (pv 0) pe_int set_list)) (pss_one (ps_ret (pv 2)))))), ?_⟩
    try dsimp only [Cx.nox, Cx.wish, cxOf]
    refine ⟨_, rfl, p, _, _, _, rfl, rfl, SqL.of hp, rfl, ?_⟩
    refine ⟨rfl, _, rfl, ?_⟩
    generalize decide (V.int d = V.int 0) = bb
    cases bb
    · refine iteF ?_
      refine ⟨_, rfl, p, _, _, _, rfl, rfl, SqL.of hp, rfl, .inl ⟨_, rfl, ?_⟩⟩
      obtain ⟨r, hr1, hr2⟩ := nat_of_mod (i := d) m0
      refine ⟨_, rfl, _, _, rfl, rfl, by show (0 : Int) < m; omega, ?_⟩
      refine ⟨_, rfl, p, _, _, _, rfl, rfl, SqL.of hp, rfl, _, rfl, _, _, rfl, rfl, ⟨by omega, by omega⟩, ?_⟩
      refine ⟨_, rfl, p, _, _, 0, rfl, rfl, hp, rfl, _, rfl, ?_⟩
      show Q (.int (d % (m : Int))) _
      rw [hr2]
      exact q r _ hr1 (Exc.refl.mut (.inl (by simp))) ⟨_, _, _, upd_same⟩
    · refine iteT ?_
      refine ⟨_, rfl, p, _, _, _, rfl, rfl, SqL.of hp, rfl, _, _, rfl, rfl, ?_⟩
      refine ⟨_, rfl, p, _, _, 2, rfl, rfl, hp, rfl, ?_⟩
      generalize hH2 : upd H p _ = H2
      have hp2 : H2 p = some (.lst [V.int d, V.int c, V.int (n + 1)]) := by rw [← hH2]; exact upd_same
      have s2 : Exc [p] H H2 := by rw [← hH2]; exact Exc.refl.mut (.inl (by simp))
      refine ⟨_, rfl, p, _, _, _, rfl, rfl, SqL.of hp2, rfl, ?_⟩
      refine ⟨_, rfl, p, _, _, _, rfl, rfl, SqL.of hp2, rfl, ?_⟩
      refine ⟨_, _, rfl, fun r0 => ?_⟩
      obtain ⟨r, hr1, hr2⟩ := nat_of_mod (i := r0) m0
      refine ⟨_, rfl, _, _, rfl, rfl, by show (0 : Int) < m; omega, ?_⟩
      show Q (.int (r0 % (m : Int))) H2
      rw [hr2]
      exact q r _ hr1 s2 ⟨_, _, _, hp2⟩
end
end Law
end

section
set_option Elab.async false
set_option linter.all false
set_option maxRecDepth 100000
set_option maxHeartbeats 4000000
namespace Law
open PySem PySem.Spec PyProof.Rows L2 LamX QB QM TL QT
section
variable {P : Program} {w : World} {K : PySem.W.Frag} {mg : Str → Option Value} {base : Heap}
theorem PileAt.upd {H : Hp} {p q : Addr} {o : HO} (h : PileAt H p) (n : p ≠ q) : PileAt (L2.upd H q o) p := by
  obtain ⟨d, c, k, e⟩ := h
  exact ⟨d, c, k, (upd_ne n).trans e⟩
theorem PileAt.ne {H : Hp} {p q : Addr} (h : PileAt H p) (n : H q = none) : p ≠ q := fun z => by
  subst z
  obtain ⟨_, _, _, e⟩ := h
  rw [n] at e
  cases e
theorem PileAt.same {H H' : Hp} {p : Addr} (h : PileAt H p) (s : Same H H') : PileAt H' p := by
  obtain ⟨d, c, k, e⟩ := h
  exact ⟨d, c, k, s _ _ e⟩
theorem sum_ones : ∀ l : List Nat, ((l.map fun y => (⟨#[97 + y]⟩ : Str)).map (·.length)).sum = l.length
  | [] => rfl
  | y :: l => by
    rw [List.map_cons, List.map_cons, List.sum_cons, sum_ones l, List.length_cons]
    show 1 + l.length = l.length + 1
    omega
def paces : List Nat := [1, 3, 5, 7, 9, 11, 15, 17, 19, 21, 23, 25]
def plains : Word := ["re", "fwd", "list", "aw", "r", "ext", "re", "fwd", "list", "aw", "r"]
theorem paces_inj : ∀ c ∈ paces, ∀ sh < 26, ∀ i < 6, ∀ j < 6, 97 + (sh + c * i) % 26 = 97 + (sh + c * j) % 26 → i = j := by decide +kernel
theorem plains_nd : ∀ k < 6, ∀ m < 7, ((plains.drop k).take m).Nodup := by decide +kernel
theorem plains_len : ∀ k < 6, ∀ m < 7, m ≤ 5 ∨ k ≤ 5 → ((plains.drop k).take m).length = m := by decide +kernel
theorem plains_txt : ∀ t ∈ plains, (decide (1 ≤ t.length) && decide (t.length ≤ 8) && t.cps.toList.all fun c => decide (c ∈ letters.cps.toList)) = true := by decide +kernel
theorem plains_tags {k m : Nat} (hk : k < 6) (h0 : 1 ≤ m) (hm : m ≤ 6) : TagsOk ((plains.drop k).take m) := by
  have h2 := plains_len k hk m (by omega) (.inr (by omega))
  refine ⟨by rw [h2]; exact h0, by rw [h2]; exact hm, plains_nd k hk m (by omega), fun t ht => ?_⟩
  have h := plains_txt t (List.mem_of_mem_drop (List.mem_of_mem_take ht))
  rw [Bool.and_eq_true, Bool.and_eq_true, List.all_eq_true] at h
  exact ⟨of_decide_eq_true h.1.1, of_decide_eq_true h.1.2, fun c hc => of_decide_eq_true (h.2 c hc)⟩
theorem cut_both {xs : List V} {i m : Nat} (h : i + m ≤ xs.length) : cutV xs (some (i : Int)) (some ((i : Int) + (m : Int))) = (xs.drop i).take m := by
  rw [show (i : Int) + (m : Int) = ((i + m : Nat) : Int) by omega]
  unfold cutV
  rw [HT.sIx_nat, HT.sIx_nat, Nat.min_eq_left (by omega), Nat.min_eq_left (by omega), Nat.add_sub_cancel_left]
/-- one drawn name -/
def nameOf (w : Str) (at_ sh pc i : Nat) : Str := cutS w none (some (at_ : Int)) ++ (⟨#[97 + (sh + pc * i) % 26]⟩ : Str) ++ cutS w (some (at_ : Int)) none
theorem tl_name (w : Str) (at_ sh pc i : Nat) : tl (nameOf w at_ sh pc i) = (tl w).take at_ ++ [97 + (sh + pc * i) % 26] ++ (tl w).drop at_ := by
  unfold nameOf
  rw [tl_append, tl_append, tl_cutL, tl_cutR]
theorem name_len (w : Str) (at_ sh pc i : Nat) : (nameOf w at_ sh pc i).length = w.length + 1 := by
  have e1 : (nameOf w at_ sh pc i).length = (tl (nameOf w at_ sh pc i)).length := len_tl _
  have e2 : w.length = (tl w).length := len_tl w
  have e3 : ((tl w).take at_).length + ((tl w).drop at_).length = (tl w).length := by rw [← List.length_append, List.take_append_drop]
  rw [e1, tl_name, List.length_append, List.length_append, e2]
  simp only [List.length_cons, List.length_nil]
  omega
theorem cut_lens (w : Str) (k : Nat) : (cutS w none (some (k : Int))).length ≤ w.length ∧ (cutS w (some (k : Int)) none).length ≤ w.length := by
  have e1 : (cutS w none (some (k : Int))).length = ((tl w).take k).length := (len_tl _).trans (congrArg List.length (tl_cutL w k))
  have e2 : (cutS w (some (k : Int)) none).length = ((tl w).drop k).length := (len_tl _).trans (congrArg List.length (tl_cutR w k))
  have e3 : w.length = (tl w).length := len_tl w
  rw [e1, e2, e3, List.length_take, List.length_drop]
  exact ⟨Nat.min_le_right _ _, Nat.sub_le _ _⟩
theorem len_add (x y : Str) : (x ++ y).length = x.length + y.length := by
  have e1 : (x ++ y).length = (tl (x ++ y)).length := len_tl _
  have e2 : x.length = (tl x).length := len_tl x
  have e3 : y.length = (tl y).length := len_tl y
  rw [e1, tl_append, List.length_append, e2, e3]
theorem names_tags {w : Str} {at_ sh pc m : Nat} (hw : w.length < 8) (hc : ∀ c ∈ tl w, 97 ≤ c ∧ c < 123) (hs : sh < 26) (hp : pc ∈ paces) (h0 : 1 ≤ m) (hm : m ≤ 6) : TagsOk ((List.range m).map fun i => nameOf w at_ sh pc i) := by
  refine ⟨by simpa using h0, by simpa using hm, ?_, fun t ht => ?_⟩
  · refine List.pairwise_map.mpr (List.nodup_range.imp_of_mem fun {i j} hi hj hne z => hne ?_)
    have z2 : tl (nameOf w at_ sh pc i) = tl (nameOf w at_ sh pc j) := congrArg tl z
    rw [tl_name, tl_name] at z2
    rw [List.mem_range] at hi hj
    have z3 : (tl w).take at_ ++ [97 + (sh + pc * i) % 26] ++ (tl w).drop at_ ++ [] = (tl w).take at_ ++ [97 + (sh + pc * j) % 26] ++ (tl w).drop at_ ++ [] := by rw [z2]
    exact paces_inj pc hp sh hs i (by omega) j (by omega) (mid_inj z3)
  · obtain ⟨i, _, rfl⟩ := List.mem_map.mp ht
    have hl := name_len w at_ sh pc i
    refine ⟨by omega, by omega, fun c hcm => ?_⟩
    refine (abc_mem (c := c)).mpr ?_
    have hcm : c ∈ tl (nameOf w at_ sh pc i) := hcm
    rw [tl_name] at hcm
    rcases List.mem_append.mp hcm with h | h
    · rcases List.mem_append.mp h with h | h
      · exact hc c (List.mem_of_mem_take h)
      · rw [List.mem_singleton.mp h]
        omega
    · exact hc c (List.mem_of_mem_drop h)
theorem PileAt.ne2 {H : Hp} {p q : Addr} {w : Word} (h : PileAt H p) (e : H q = some (.lst (vS w))) : q ≠ p := fun z => by
  subst z
  obtain ⟨d, c, n, h⟩ := h
  rw [h] at e
  have e := HO.lst.inj (Option.some.inj e)
  cases w with
  | nil => cases e
  | cons t w =>
    have := (List.cons.inj e).1
    cases this
theorem wordEx {H H' : Hp} {p a : Addr} {t : Word} (e : Exc [p] H H') (n : a ≠ p) (h : WordAt H a t) : WordAt H' a t := e _ _ (by simpa using n) h
def spTags : Sp := fun vs H Q _ => ∃ (p : Addr) (m : Nat), vs = [.ref p, .int (m : Int)] ∧ 1 ≤ m ∧ m ≤ 6 ∧ PileAt H p ∧ ∀ (tags : Word) (q : Addr) (H' : Hp), TagsOk tags → tags.length = m → Exc [p] H H' → PileAt H' p → H q = none → WordAt H' q tags → Q (.ref q) H'
theorem ok__law_tags (X : TX K mg) : FnOk P w K mg base CX0 4 X.d__law_tags.a X.d__law_tags.fd ["pile", "many"] spTags := by
  have nd := sc__law_tags.nd
  refine X.d__law_tags.F.ok sc__law_tags (fun vs H Q E h => ?_) (fun cdv A outer s H vs Q E hr h => ?_)
  · obtain ⟨p, m, rfl, _⟩ := h
    rfl
  · obtain ⟨p, m, rfl, m0, m1, hp, q⟩ := h
    refine ⟨_, (pss_cons (ps_set (i := 2) nd rfl (Or.inr rfl) pe_str) (pss_cons (ps_if (pt_cmpR op_eq (pe_call (ok__law_take X) (hr.mono (by decide)) rfl X.d__law_take.mg X.d__law_take.F.kp X.d__law_take.b .nil pass0 (pa_cons (pv 0) (pa_cons pe_int pa_nil))) pe_int (nomark _)) (pss_cons (ps_set (i := 3) nd rfl (Or.inl rfl) (pe_lst (pa_cons pe_str (pa_cons pe_str (pa_cons pe_str (pa_cons pe_str (pa_cons pe_str (pa_cons pe_str (pa_cons pe_str (pa_cons pe_str (pa_cons pe_str (pa_cons pe_str (pa_cons pe_str pa_nil))))))))))))) (pss_cons (ps_set (i := 4) nd rfl (Or.inr rfl) (pe_call (ok__law_take X) (hr.mono (by decide)) rfl X.d__law_take.mg X.d__law_take.F.kp X.d__law_take.b .nil pass0 (pa_cons (pv 0) (pa_cons pe_int pa_nil)))) (pss_one (ps_ret (pe_slice (QB.sl_listK K) (pv 3) (po_some (pv 4)) (po_some (pe_op op_add (pv 4) (pv 1)))))))) pss_nil) (pss_cons (ps_set (i := 5) nd rfl (Or.inr rfl) (pe_join pe_str (pe_lc (own := [("k", 8)]) (g := gName 8) (tt := tYes) rfl nd (pi_range1 (by rfl) X.n_range (pa_cons (pe_call (ok__law_take X) (hr.mono (by decide)) rfl X.d__law_take.mg X.d__law_take.F.kp X.d__law_take.b .nil pass0 (pa_cons (pv 0) (pa_cons pe_int pa_nil))) pa_nil)) (blkOk_by (N := ["pile", "many", "letters", "plain", "at", "stem", "shift", "pace", "k"]) (sc := defScope s__law_tags) (by decide +kernel)) (fun _ _ _ _ _ => pg_name (i := 8) nd rfl (Or.inl rfl)) (fun _ _ _ _ _ => pts_nil) (fun _ _ _ _ _ => (pe_item_str (pv 2) (pe_call (ok__law_take X) (hr.mono (by decide)) rfl X.d__law_take.mg X.d__law_take.F.kp X.d__law_take.b .nil pass0 (pa_cons (pv 0) (pa_cons pe_int pa_nil))) (fun _ _ => rfl)))))) (pss_cons (ps_set (i := 4) nd rfl (Or.inr rfl) (pe_call (ok__law_take X) (hr.mono (by decide)) rfl X.d__law_take.mg X.d__law_take.F.kp X.d__law_take.b .nil pass0 (pa_cons (pv 0) (pa_cons (pe_op op_add (pe_callB call_len_str (by rfl) X.n_len PySem.boot_len (pa_cons (pv 5) pa_nil)) pe_int) pa_nil)))) (pss_cons (ps_set (i := 6) nd rfl (Or.inr rfl) (pe_call (ok__law_take X) (hr.mono (by decide)) rfl X.d__law_take.mg X.d__law_take.F.kp X.d__law_take.b .nil pass0 (pa_cons (pv 0) (pa_cons pe_int pa_nil)))) (pss_cons (ps_set (i := 7) nd rfl (Or.inr rfl) (pe_ix (QB.ix_listK K) (pe_lst (pa_cons pe_int (pa_cons pe_int (pa_cons pe_int (pa_cons pe_int (pa_cons pe_int (pa_cons pe_int (pa_cons pe_int (pa_cons pe_int (pa_cons pe_int (pa_cons pe_int (pa_cons pe_int (pa_cons pe_int pa_nil))))))))))))) (pe_call (ok__law_take X) (hr.mono (by decide)) rfl X.d__law_take.mg X.d__law_take.F.kp X.d__law_take.b .nil pass0 (pa_cons (pv 0) (pa_cons pe_int pa_nil))) (fun _ _ => rfl))) (pss_one (ps_ret (pe_lc (own := [("k", 8)]) (g := gName 8) (tt := tYes) rfl nd (pi_range1 (by rfl) X.n_range (pa_cons (pv 1) pa_nil)) (blkOk_by (N := ["pile", "many", "letters", "plain", "at", "stem", "shift", "pace", "k"]) (sc := defScope s__law_tags) (by decide +kernel)) (fun _ _ _ _ _ => pg_name (i := 8) nd rfl (Or.inl rfl)) (fun _ _ _ _ _ => pts_nil) (fun _ _ _ _ _ => (pe_op op_add_str (pe_op op_add_str (pe_slice sl_str (pv 5) po_none (po_some (pv 4))) (pe_item_str (pv 2) (pe_op op_mod (pe_op op_add (pv 6) (pe_op op_mul (pv 7) (pv 8))) pe_int) (fun _ _ => rfl))) (pe_slice sl_str (pv 5) (po_some (pv 4)) po_none)))))))))))), ?_⟩
    try dsimp only [Cx.nox, Cx.wish, cxOf]
    -- the plain names
    refine ⟨_, rfl, p, 2, rfl, by decide, by decide, hp, fun r0 H0 hr0 x0 p0 => ?_⟩
    refine ⟨rfl, _, rfl, ?_⟩
    generalize decide (V.int (r0 : Int) = V.int 0) = b0
    cases b0
    case' true =>
      refine iteT ?_
      refine ⟨by show 11 ≤ sizeLine; decide, fun t2 ht2 => ?_⟩
      have s6 : Same H0 (upd H0 t2 (.lst (vS plains))) := same_new ht2
      have h6 : (upd H0 t2 (.lst (vS plains))) t2 = some (.lst (vS plains)) := upd_same
      have e6 : upd H0 t2 (.lst (vS plains)) = upd H0 t2 (.lst [V.str (Str.ofString "re"), V.str (Str.ofString "fwd"), V.str (Str.ofString "list"), V.str (Str.ofString "aw"), V.str (Str.ofString "r"), V.str (Str.ofString "ext"), V.str (Str.ofString "re"), V.str (Str.ofString "fwd"), V.str (Str.ofString "list"), V.str (Str.ofString "aw"), V.str (Str.ofString "r")]) := rfl
      generalize upd H0 t2 (.lst (vS plains)) = H6 at s6 h6 e6
      rw [← e6]
      clear e6
      refine ⟨_, rfl, p, 6, rfl, by decide, by decide, p0.same s6, fun k H7 hk x7 p7 => ?_⟩
      have h7 : WordAt H7 t2 plains := wordEx x7 ((p0.same s6).ne2 h6) h6
      refine ⟨_, rfl, _, rfl, _, rfl, _, rfl, _, rfl, _, _, rfl, rfl, _, rfl, t2, _, rfl, SqL.of h7, fun t3 ht3 => ?_⟩
      rw [cut_both (by rw [vS_len]; show k + m ≤ 11; omega), vS_drop, vS_take]
      have s8 := same_new (o := .lst (vS ((plains.drop k).take m))) ht3
      have xz := (x0.trans (.of s6)).trans x7
      exact q _ t3 _ (plains_tags hk m0 m1) (plains_len _ hk _ (by omega) (.inr (by omega))) (xz.trans (.of s8)) (p7.same s8) (hp.free xz p7 ht3) upd_same
    refine iteF ?_
    refine ⟨⟨_, rfl⟩, _, rfl, ?_⟩
    refine ⟨p, 8, rfl, by decide, by decide, p0, fun r H1 hr1 x1 p1 => ?_⟩
    refine ⟨_, rfl, by omega, by omega, fun D hD => ?_⟩
    have hDp : D ≠ p := fun z => by
      subst z
      obtain ⟨_, _, _, h⟩ := p1
      rw [h] at hD
      cases hD
    refine lc_it (walk_range (lo := 0) (n := r)) (fun i H' => Exc [p] H1 H' ∧ PileAt H' p ∧ ∃ ys : List Nat, ys.length = i ∧ H' D = some (.lst (ys.map fun y => V.str ⟨#[97 + y]⟩)) ∧ ∀ y ∈ ys, y < 26)
      ⟨Exc.refl.mut (.inr hD), p1.upd hDp.symm, [], rfl, upd_same, fun _ h => nomatch h⟩ (fun _ _ _ _ => True.intro) ?_ ?_
    · rintro i x H2 H3 hi ⟨x2, p2, ys, hl, hDl, hy⟩ ⟨rfl, rfl⟩
      refine ⟨rfl, _, rfl, _, rfl, ?_⟩
      refine ⟨p, 26, rfl, by decide, by decide, p2, fun r2 H4 hr2 x4 p4 => ?_⟩
      refine ⟨abc, _, _, rfl, rfl, by omega, by omega, by rw [abc_len]; omega, abc_item (by omega) (by omega), ?_⟩
      have hD4 := x4 D _ (by simpa using hDp) hDl
      refine ⟨_, hD4, by rw [List.length_map]; exact sz_lt (by omega), (x2.trans x4).mut (.inr hD), p4.upd hDp.symm, ys ++ [r2], by rw [List.length_append, hl]; rfl, ?_, ?_⟩
      · rw [upd_same, List.map_append]
        rfl
      · intro y hy'
        rcases List.mem_append.mp hy' with h | h
        · exact hy y h
        · rw [List.mem_singleton.mp h]
          exact hr2
    · rintro H2 ⟨x2, p2, ys, hl, hDl, hy⟩
      have hys : ys.map (fun y => V.str ⟨#[97 + y]⟩) = (ys.map fun y => (⟨#[97 + y]⟩ : Str)).map V.str := by rw [List.map_map]; rfl
      rw [hys] at hDl
      refine ⟨_, D, ys.map fun y => (⟨#[97 + y]⟩ : Str), rfl, rfl, .inl (SqL.of hDl), ?_, ?_⟩
      · rw [sum_ones, List.length_map]
        show ys.length + ys.length * 0 ≤ 16777216
        omega
      have hw : tl (Txt.join (Str.ofString "") (ys.map fun y => (⟨#[97 + y]⟩ : Str))) = ys.map (97 + ·) := by
        rw [show Str.ofString "" = Str.empty from rfl, tl_join0, List.map_map]
        clear hDl hys hl hy
        induction ys with
        | nil => rfl
        | cons y ys ih =>
          rw [List.map_cons, List.flatten_cons, ih]
          rfl
      generalize Txt.join (Str.ofString "") (ys.map fun y => (⟨#[97 + y]⟩ : Str)) = w at hw ⊢
      have hwl : w.length = r := by
        rw [len_tl w, show (tl w).length = (ys.map (97 + ·)).length from congrArg List.length hw, List.length_map]
        exact hl
      have hwc : ∀ c ∈ tl w, 97 ≤ c ∧ c < 123 := fun c hc => by
        rw [hw] at hc
        obtain ⟨y, hy', rfl⟩ := List.mem_map.mp hc
        have := hy y hy'
        omega
      have xA := x1.trans x2
      clear hw hys hDl hy
      show tSeq _ _ _ _ _
      have hsz : w.length ≤ sizeLine := by rw [hwl]; exact Nat.le_trans (Nat.le_of_lt hr1) (by decide)
      refine ⟨_, rfl, _, rfl, w, rfl, hsz, _, _, rfl, rfl, ?_⟩
      refine ⟨p, w.length + 1, rfl, by omega, by omega, p2, fun at_ H3 hat x3 p3 => ?_⟩
      refine ⟨_, rfl, p, 26, rfl, by decide, by decide, p3, fun sh H4 hsh x4 p4 => ?_⟩
      refine ⟨by show 12 ≤ sizeLine; decide, fun t1 ht1 => ?_⟩
      have s5 := same_new (o := .lst (paces.map fun n : Nat => V.int (n : Int))) ht1
      refine ⟨_, rfl, p, 12, rfl, by decide, by decide, p4.same s5, fun pi H5 hpi x5 p5 => ?_⟩
      have hpl : paces[pi]? = some (paces[pi]'hpi) := List.getElem?_eq_getElem hpi
      have hpm : paces[pi]'hpi ∈ paces := List.getElem_mem hpi
      have ht1p := p4.ne ht1
      refine ⟨t1, _, _, V.int ((paces[pi]'hpi : Nat) : Int), rfl, rfl, SqL.of (x5 t1 _ (by simpa using ht1p.symm) upd_same), atI_nat (by
        show (paces.map fun n : Nat => V.int (n : Int))[pi]? = _
        rw [List.getElem?_map, hpl]
        rfl), ?_⟩
      generalize paces[pi]'hpi = pc at hpm hpl ⊢
      have xB := (((xA.trans x3).trans x4).trans (.of s5)).trans x5
      clear s5 x5 hpl ht1p ht1 xA x3 x4 p3 p4 p2 x2 p1 x1 hD
      dsimp only [gName]
      generalize hσ : List.set _ 7 _ = σ6
      have eσ : σ6 = [some (.ref p), some (.int (m : Int)), some (.str abc), none, some (.int (at_ : Int)), some (.str w), some (.int (sh : Int)), some (.int (pc : Int)), none] := by
        rw [← hσ]
        rfl
      subst eσ
      clear hσ
      refine ⟨_, rfl, (m : Int), rfl, by omega, by omega, fun D2 hD2 => ?_⟩
      refine lc_map (walk_range (lo := 0) (n := m)) hD2 (by omega) (fun _ _ => True.intro) (fun i => .str (nameOf w at_ sh pc i)) ?_ ?_
      · rintro i x H6 H7 kk hi s6 ⟨rfl, rfl⟩ hk
        have hv : ((sh : Int) + (pc : Int) * (0 + (i : Nat))) % 26 = (((sh + pc * i) % 26 : Nat) : Int) := by
          rw [Int.zero_add, ← Int.natCast_mul, ← Int.natCast_add]
          omega
        have hc := cut_lens w at_
        refine ⟨rfl, ?_⟩
        refine ⟨_, rfl, _, rfl, _, rfl, w, rfl, hsz, ?_⟩
        refine ⟨_, rfl, _, rfl, _, rfl, _, rfl, _, _, rfl, rfl, ?_, _, _, rfl, rfl, _, _, rfl, rfl, by show (0 : Int) < 26; decide, ?_⟩
        · refine .inl ⟨?_, ?_⟩
          · show -(2 ^ 64) < (pc : Int)
            omega
          · show (pc : Int) < 2 ^ 64
            have : ∀ c ∈ paces, c < 100 := by decide
            have := this pc hpm
            omega
        have hlt : (sh + pc * i) % 26 < 26 := Nat.mod_lt _ (by decide)
        refine ⟨abc, (((sh + pc * i) % 26 : Nat) : Int), 97 + (sh + pc * i) % 26, rfl, congrArg V.int hv, by omega, by omega, by rw [abc_len]; omega, abc_item (by omega) (by omega), ?_⟩
        refine ⟨_, _, rfl, rfl, ?_, ?_⟩
        · show _ + 1 ≤ sizeLine
          exact sz_le (by omega)
        refine ⟨_, rfl, _, rfl, _, rfl, w, rfl, hsz, ?_⟩
        refine ⟨_, _, rfl, rfl, ?_, ?_⟩
        · rw [len_add]
          show _ + 1 + _ ≤ sizeLine
          exact sz_le (by omega)
        exact hk _ (Same.refl _)
      · intro H6 s6 e6
        have tg := names_tags (w := w) (at_ := at_) (sh := sh) (pc := pc) (m := m) (by omega) hwc hsh hpm m0 m1
        refine q ((List.range m).map fun i => nameOf w at_ sh pc i) D2 H6 tg (by rw [List.length_map, List.length_range]) ((x0.trans xB).trans (.of s6)) (p5.same s6) (hp.free (x0.trans xB) p5 hD2) ?_
        unfold WordAt vS
        rw [List.map_map]
        exact e6
end
end Law
end

section
set_option Elab.async false
set_option linter.all false
set_option maxRecDepth 100000
set_option maxHeartbeats 4000000
namespace Law
open PySem PySem.Spec PyProof.Rows L2 LamX QB QM
section
variable {P : Program} {w : World} {K : PySem.W.Frag} {mg : Str → Option Value} {base : Heap}
theorem newLExc {H0 H H' : Hp} {p : Addr} {L : List Tri} {F : Form} (n : NewL H0 H L F) (e : Exc [p] H H') (hp : PileAt H0 p) : NewL H0 H' L F := by
  obtain ⟨d, c, k, hp⟩ := hp
  refine ⟨paired_mem n.at_ fun x s hx q => ?_, n.new, n.nd⟩
  obtain ⟨f1, f2, f3⟩ := n.new x hx
  have g1 := f1.ne hp
  have g2 := f2.ne hp
  have g3 := f3.ne hp
  exact ⟨e _ _ (by simpa using g1.symm) q.1, e _ _ (by simpa using g2.symm) q.2.1, e _ _ (by simpa using g3.symm) q.2.2⟩
theorem newLSnoc {H0 H : Hp} {t a b : Addr} {L : List Tri} {F : Form} {s : Std} (n : NewL H0 H L F) (h1 : H t = some (.tup [.ref a, .ref b])) (h2 : WordAt H a s.1) (h3 : WaysAt H b s.2) (f1 : Fresh H0 t) (f2 : Fresh H0 a) (f3 : Fresh H0 b) (o1 : a ∉ inner L) (o2 : b ∉ inner L) (hab : a ≠ b) :
    NewL H0 H (L ++ [(t, a, b)]) (F ++ [s]) := by
  refine ⟨Paired.snoc n.at_ ⟨h1, h2, h3⟩, fun x hx => ?_, ?_⟩
  · rcases List.mem_append.mp hx with hx | hx
    · exact n.new x hx
    · rw [List.mem_singleton.mp hx]
      exact ⟨f1, f2, f3⟩
  · rw [inner_append, List.nodup_append]
    refine ⟨n.nd, ?_, fun x hx y hy => ?_⟩
    · show [a, b].Nodup
      simp [hab]
    · have hy : y = a ∨ y = b := by simpa [inner] using hy
      rcases hy with rfl | rfl
      · exact fun z => o1 (z ▸ hx)
      · exact fun z => o2 (z ▸ hx)
theorem vWs_flat {ws : Ways} : (vWs ws).all flatV = true := by
  rw [List.all_eq_true]
  intro x hx
  obtain ⟨y, _, rfl⟩ := List.mem_map.mp hx
  cases y <;> rfl
theorem wordExc {H H' : Hp} {p a : Addr} {t : Word} (e : Exc [p] H H') (n : a ≠ p) (h : WordAt H a t) : WordAt H' a t := e _ _ (by simpa using n) h
theorem PileAt.word {H : Hp} {p a : Addr} {t : Word} (h : PileAt H p) (ha : WordAt H a t) : a ≠ p := fun z => by
  subst z
  obtain ⟨_, _, _, h⟩ := h
  unfold WordAt at ha
  rw [h] at ha
  injection ha with ha
  injection ha with ha
  cases t with
  | nil => cases ha
  | cons => cases ha
theorem vWs_snoc (ws : Ways) (x : Option Nat) : vWs ws ++ [vW x] = vWs (ws ++ [x]) := by
  unfold vWs
  rw [List.map_append]
  rfl
theorem atI_last {ys : List V} {v : V} : atI (ys ++ [v]) (-1) = some v := by
  have e : ixN (ys ++ [v]).length (-1) = some ys.length := by
    unfold ixN
    rw [if_neg (by decide), List.length_append, if_pos (by show -((ys.length + 1 : Nat) : Int) ≤ -1; omega)]
    congr 1
    show (-1 + ((ys.length + 1 : Nat) : Int)).toNat = ys.length
    omega
  unfold atI
  rw [e]
  simp
def spWord : Sp := fun vs H Q _ => ∃ (p a : Addr) (tags : Word) (most : Nat), vs = [.ref p, .ref a, .int (most : Int)] ∧ most ≤ 900 ∧ PileAt H p ∧ WordAt H a tags ∧ TagsOk tags ∧
  ∀ (wd : Word) (q : Addr) (H' : Hp), (∀ t ∈ wd, t ∈ tags) → wd.length ≤ most → Exc [p] H H' → PileAt H' p → H q = none → WordAt H' q wd → Q (.ref q) H'
theorem ok__law_word (X : TX K mg) : FnOk P w K mg base CX0 4 X.d__law_word.a X.d__law_word.fd ["pile", "tags", "most"] spWord := by
  have nd := sc__law_word.nd
  refine X.d__law_word.F.ok sc__law_word (fun vs H Q E h => ?_) (fun cdv A outer s H vs Q E hr h => ?_)
  · obtain ⟨p, a, tags, most, rfl, _⟩ := h
    rfl
  · obtain ⟨p, a, tags, most, rfl, m1, hp, ha, to, k⟩ := h
    refine ⟨_, (pss_one (ps_ret (pe_lc (own := [("turn", 3)]) (g := gName 3) (tt := tYes) rfl nd (pi_range1 (by rfl) X.n_range (pa_cons (pe_call (ok__law_take X) (hr.mono (by decide)) rfl X.d__law_take.mg X.d__law_take.F.kp X.d__law_take.b .nil pass0 (pa_cons (pv 0) (pa_cons (pe_op op_add (pv 2) pe_int) pa_nil))) pa_nil)) (blkOk_by (N := ["pile", "tags", "most", "turn"]) (sc := defScope s__law_word) (by decide +kernel)) (fun _ _ _ _ _ => pg_name (i := 3) nd rfl (Or.inl rfl)) (fun _ _ _ _ _ => pts_nil) (fun _ _ _ _ _ => (pe_ix (QB.ix_listK K) (pv 1) (pe_call (ok__law_take X) (hr.mono (by decide)) rfl X.d__law_take.mg X.d__law_take.F.kp X.d__law_take.b .nil pass0 (pa_cons (pv 0) (pa_cons (pe_callB (QB.call_lenK K) (by rfl) X.n_len PySem.boot_len (pa_cons (pv 1) pa_nil)) pa_nil))) (fun _ _ => rfl)))))), ?_⟩
    try dsimp only [Cx.nox, Cx.wish, cxOf]
    have ap := hp.word ha
    refine ⟨_, rfl, _, rfl, _, _, rfl, rfl, ?_⟩
    refine ⟨p, most + 1, rfl, by omega, by omega, hp, fun r2 H4 hr2 x4 p4 => ⟨_, rfl, by omega, by omega, fun W hW => ?_⟩⟩
    have hWp := p4.ne hW
    have ha4 := wordExc x4 ap ha
    refine lc_it (walk_range (lo := 0) (n := r2)) (fun i H' => Exc [p] H4 H' ∧ PileAt H' p ∧ ∃ ys : Word, ys.length = i ∧ WordAt H' W ys ∧ ∀ t ∈ ys, t ∈ tags)
      ⟨Exc.refl.mut (.inr hW), p4.upd hWp, [], rfl, upd_same, fun _ h => nomatch h⟩ (fun _ _ _ _ => True.intro) ?_ ?_
    · rintro j x H5 H6 hj ⟨x5, p5, ys, hl, hWl, hy⟩ ⟨rfl, rfl⟩
      refine ⟨rfl, _, rfl, _, rfl, ?_⟩
      have ha5 := wordExc x5 ap ha4
      refine ⟨_, rfl, _, _, rfl, .inl (SqL.of ha5), ?_⟩
      have h1 := to.pos
      have h2 := to.len
      refine ⟨p, tags.length, by rw [vS_len]; rfl, by omega, by omega, p5, fun r3 H7 hr3 x7 p7 => ?_⟩
      have e3 : tags[r3]? = some (tags[r3]'hr3) := List.getElem?_eq_getElem hr3
      refine ⟨a, _, _, _, rfl, rfl, SqL.of (wordExc x7 ap ha5), atI_nat (vS_get e3), ?_⟩
      have hW7 := wordExc x7 hWp.symm hWl
      refine ⟨_, hW7, by rw [vS_len]; exact sz_lt (by omega), (x5.trans x7).mut (.inr hW), p7.upd hWp, ys ++ [tags[r3]'hr3], by rw [List.length_append, hl]; rfl, ?_, ?_⟩
      · unfold WordAt
        rw [upd_same, ← vS_append]
        rfl
      · intro t ht
        rcases List.mem_append.mp ht with h | h
        · exact hy t h
        · rw [List.mem_singleton.mp h]
          exact List.getElem_mem hr3
    · rintro H5 ⟨x5, p5, wd, hwl, hWd, hwt⟩
      exact k wd W H5 hwt (by omega) (x4.trans x5) p5 (hp.free x4 p4 hW) hWd
def spStandings : Sp := fun vs H Q _ => ∃ (p a : Addr) (tags : Word) (most long : Nat), vs = [.ref p, .ref a, .int (most : Int), .int (long : Int)] ∧ 1 ≤ most ∧ most ≤ 30 ∧ long ≤ 8 ∧ PileAt H p ∧ WordAt H a tags ∧ TagsOk tags ∧
  ∀ (F : Form) (L : List Tri) (q : Addr) (H' : Hp), FormOk tags F → F.length ≤ most → (∀ s ∈ F, s.1.length ≤ long) → Exc [p] H H' → PileAt H' p → NewF H H' q L F → Q (.ref q) H'
theorem ok__law_standings (X : TX K mg) : FnOk P w K mg base CX0 5 X.d__law_standings.a X.d__law_standings.fd ["pile", "tags", "most", "long"] spStandings := by
  have nd := sc__law_standings.nd
  refine X.d__law_standings.F.ok sc__law_standings (fun vs H Q E h => ?_) (fun cdv A outer s H vs Q E hr h => ?_)
  · obtain ⟨p, a, tags, most, long, rfl, _⟩ := h
    rfl
  · obtain ⟨p, a, tags, most, long, rfl, m0, m1, l1, hp, ha, to, q⟩ := h
    refine ⟨_, (pss_cons (ps_set (i := 4) nd rfl (Or.inl rfl) (pe_op op_add pe_int (pe_call (ok__law_take X) (hr.mono (by decide)) rfl X.d__law_take.mg X.d__law_take.F.kp X.d__law_take.b .nil pass0 (pa_cons (pv 0) (pa_cons (pv 2) pa_nil))))) (pss_cons (ps_set (i := 5) nd rfl (Or.inl rfl) (pe_lst pa_nil)) (pss_cons (ps_for PassesOwn.never rfl (pi_range1 (by rfl) X.n_range (pa_cons (pv 4) pa_nil)) (pg_name (i := 6) nd rfl (Or.inl rfl)) (pss_cons (ps_set (i := 7) nd rfl (Or.inl rfl) (pe_lst pa_nil)) (pss_cons (ps_for PassesOwn.never rfl (QB.pi_listK K (pv 1)) (pg_name (i := 8) nd rfl (Or.inl rfl)) (pss_one (ps_expr (QB.pe_bmK K PySem.F.plainAttrs_list PySem.F.slot_list_append PySem.F.type_list_append mt_append (pv 7) (pa_cons (pe_ix (QB.ix_listK K) (pe_lst (pa_cons pe_non (pa_cons pe_non (pa_cons (pe_call (ok__law_take X) (hr.mono (by decide)) rfl X.d__law_take.mg X.d__law_take.F.kp X.d__law_take.b .nil pass0 (pa_cons (pv 0) (pa_cons (pv 4) pa_nil))) pa_nil)))) (pe_call (ok__law_take X) (hr.mono (by decide)) rfl X.d__law_take.mg X.d__law_take.F.kp X.d__law_take.b .nil pass0 (pa_cons (pv 0) (pa_cons pe_int pa_nil))) (fun _ _ => rfl)) pa_nil))))) (pss_one (ps_expr (QB.pe_bmK K PySem.F.plainAttrs_list PySem.F.slot_list_append PySem.F.type_list_append mt_append (pv 5) (pa_cons (pe_tup (pa_cons (pe_call (ok__law_word X) (hr.mono (by decide)) rfl X.d__law_word.mg X.d__law_word.F.kp X.d__law_word.b .nil pass0 (pa_cons (pv 0) (pa_cons (pv 1) (pa_cons (pv 3) pa_nil)))) (pa_cons (pv 7) pa_nil))) pa_nil))))))) (pss_one (ps_ret (pv 5)))))), ?_⟩
    try dsimp only [Cx.nox, Cx.wish, cxOf]
    refine ⟨_, rfl, _, rfl, ?_⟩
    refine ⟨p, most, rfl, by omega, by omega, hp, fun r H1 hr1 x1 p1 => ?_⟩
    show rI0 _ _ _ _ _
    refine ⟨_, _, rfl, rfl, ?_⟩
    refine ⟨by show 0 ≤ sizeLine; decide, fun D hD => ?_⟩
    have hDp := p1.ne hD
    have ap := hp.word ha
    show tSeq _ _ _ (List.set _ 5 _) _
    generalize hσ : List.set _ 5 _ = σ6
    have eσ : σ6 = [some (.ref p), some (.ref a), some (.int (most : Int)), some (.int (long : Int)), some (.int ((1 + r : Nat) : Int)), some (.ref D), none, none, none] := by
      rw [← hσ]
      rfl
    subst eσ
    clear hσ
    have hn : 1 + r ≤ most := by omega
    have hn1 : 1 ≤ 1 + r := by omega
    generalize 1 + r = n at hn hn1 ⊢
    clear hr1
    have hD0 : H D = none := hp.free x1 p1 hD
    refine ⟨_, rfl, (n : Int), rfl, by omega, by omega, ?_⟩
    refine for_it (walk_range (lo := 0) (n := n)) (fun i σ H' => ∃ (v6 v7 v8 : Option V) (F : Form) (L : List Tri), σ = [some (.ref p), some (.ref a), some (.int (most : Int)), some (.int (long : Int)), some (.int (n : Int)), some (.ref D), v6, v7, v8] ∧
        Exc [p] H H' ∧ PileAt H' p ∧ H' D = some (.lst (L.map fun x => V.ref x.1)) ∧ NewL H H' L F ∧ D ∉ inner L ∧ F.length = i ∧ (∀ s ∈ F, StdOk tags n s) ∧ ∀ s ∈ F, s.1.length ≤ long)
      ⟨none, none, none, [], [], rfl, x1.mut (.inr hD0), p1.upd hDp, upd_same, NewL.nil, by simp [inner], rfl, (fun _ h => nomatch h), fun _ h => nomatch h⟩ (fun _ _ _ _ _ => True.intro) ?_ ?_
    · rintro i x σ H2 H3 hi ⟨v6, v7, v8, F, L, rfl, x2, p2, hD2, nL, oD, hF, hok, hlg⟩ ⟨rfl, rfl⟩
      have hL := nL.len
      -- the ways
      refine ⟨by show 0 ≤ sizeLine; decide, fun V0 hV => ?_⟩
      have hVp := p2.ne hV
      have hV0 : H V0 = none := hp.free x2 p2 hV
      have hVD : V0 ≠ D := (ne_of_none hD2 hV).symm
      have hVin : V0 ∉ inner L := fun h => by
        obtain ⟨_, h⟩ := nL.there h
        rw [hV] at h
        cases h
      have s3 := same_new (o := .lst ([] : List V)) hV
      have xA := x2.trans (.of s3)
      have pA := p2.same s3
      have hDA := s3 _ _ hD2
      have nA := nL.same s3
      have hVA : WaysAt (upd H3 V0 (.lst [])) V0 [] := upd_same
      generalize upd H3 V0 (.lst []) = HA at xA pA hDA nA hVA ⊢
      clear s3 hV x2 p2 hD2 nL
      have haA := wordExc xA ap ha
      refine ⟨_, rfl, _, rfl, ⟨_, SqL.of haA⟩, ?_⟩
      refine for_it (walk_listW (K := K) (a := a) (w := tags)) (fun j σ H' => ∃ (v8 : Option V) (ws : Ways), σ = [some (.ref p), some (.ref a), some (.int (most : Int)), some (.int (long : Int)), some (.int (n : Int)), some (.ref D), some (.int (0 + (i : Int))), some (.ref V0), v8] ∧ Exc [p] H H' ∧ PileAt H' p ∧
          H' D = some (.lst (L.map fun x => V.ref x.1)) ∧ NewL H H' L F ∧ WaysAt H' V0 ws ∧ ws.length = j ∧ ∀ m, some m ∈ ws → m < n)
        ⟨_, [], rfl, xA, pA, hDA, nA, hVA, rfl, fun _ h => nomatch h⟩ (fun j σ H' _ ⟨_, _, _, x', _⟩ => wordExc x' ap ha) ?_ ?_
      · rintro j x σ H5 H6 hj ⟨v8, ws, rfl, x5, p5, hD5, n5, hV5, hwl, hwn⟩ ⟨t, ht, rfl, rfl⟩
        refine ⟨_, rfl, .inl ⟨rfl, _, SqL.of hV5⟩, ?_⟩
        refine ⟨_, rfl, _, rfl, p, n, rfl, by omega, by omega, p5, fun r7 H7 hr7 x7 p7 => ⟨by show 3 ≤ sizeLine; decide, fun u hu => ?_⟩⟩
        have s7 := same_new (o := .lst [V.non, V.non, V.int (r7 : Int)]) hu
        have hu7 : (upd H7 u (.lst [V.non, V.non, V.int (r7 : Int)])) u = some (.lst [V.non, V.non, V.int (r7 : Int)]) := upd_same
        have xB := x7.trans (.of s7)
        have pB := p7.same s7
        have hup := p7.ne hu
        generalize upd H7 u (.lst [V.non, V.non, V.int (r7 : Int)]) = HB at s7 hu7 xB pB ⊢
        refine ⟨_, rfl, p, 3, rfl, by decide, by decide, pB, fun r9 H9 hr9 x9 p9 => ?_⟩
        have hu9 := x9 u _ (by simpa using hup.symm) hu7
        have hix : ∃ wy : Option Nat, atI [V.non, V.non, V.int (r7 : Int)] (r9 : Int) = some (vW wy) ∧ ∀ m, wy = some m → m < n := by
          rcases (by omega : r9 = 0 ∨ r9 = 1 ∨ r9 = 2) with rfl | rfl | rfl
          · exact ⟨none, atI_nat (j := 0) rfl, fun _ h => nomatch h⟩
          · exact ⟨none, atI_nat (j := 1) rfl, fun _ h => nomatch h⟩
          · exact ⟨some r7, atI_nat (j := 2) rfl, fun m h => by rw [← Option.some.inj h]; exact hr7⟩
        obtain ⟨wy, hwy, hwy2⟩ := hix
        refine ⟨u, _, _, _, rfl, rfl, SqL.of hu9, hwy, ?_⟩
        have xC := xB.trans x9
        have hV9 : WaysAt H9 V0 ws := xC _ _ (by simpa using hVp.symm) hV5
        have hD9 := xC D _ (by simpa using hDp.symm) hD5
        have n9 := newLExc n5 xC hp
        refine ⟨V0, _, _, rfl, rfl, hV9, by rw [vWs_len, hwl]; have := to.len; exact sz_lt (by omega), ?_⟩
        rw [vWs_snoc]
        refine ⟨_, ws ++ [wy], rfl, (x5.trans xC).mut (.inr hV0), p9.upd hVp, (upd_ne hVD.symm).trans hD9, n9.upd hV9 hVin, upd_same, by rw [List.length_append, hwl]; rfl, fun m hm => ?_⟩
        rcases List.mem_append.mp hm with h | h
        · exact hwn m h
        · exact hwy2 m (List.mem_singleton.mp h).symm
      · rintro σ H5 ⟨v8, ws, rfl, x5, p5, hD5, n5, hV5, hwl, hwn⟩
        refine ⟨_, rfl, .inl ⟨rfl, _, SqL.of hD5⟩, ?_⟩
        refine ⟨_, rfl, _, rfl, _, rfl, p, a, tags, long, rfl, by omega, p5, wordExc x5 ap ha, to, fun wd W H6 hwt hwl2 x6 p6 nW hW => ?_⟩
        have hD6 := x6 D _ (by simpa using hDp.symm) hD5
        have n6 := newLExc n5 x6 hp
        have hV6 : WaysAt H6 V0 ws := x6 _ _ (by simpa using hVp.symm) hV5
        have xB := x5.trans x6
        have nWH : H W = none := hp.free x5 p5 nW
        have hWV : W ≠ V0 := (ne_of_none hV5 nW).symm
        have hWD : W ≠ D := (ne_of_none hD5 nW).symm
        have hWin : W ∉ inner L := fun h => by
          obtain ⟨_, h⟩ := n5.there h
          rw [nW] at h
          cases h
        refine ⟨_, rfl, by show 2 ≤ sizeLine; decide, fun t ht => ?_⟩
        have s7 := same_new (o := .tup [V.ref W, V.ref V0]) ht
        have nt : H t = none := hp.free xB p6 ht
        have htD : t ≠ D := (ne_of_none hD6 ht).symm
        have hp7 := p6.same s7
        have hD7 := s7 _ _ hD6
        have n7 := newLSnoc (s := (wd, ws)) (n6.same s7) (t := t) upd_same (Same.word s7 hW) (Same.ways s7 hV6) (.of nt) (.of nWH) (.of hV0) hWin hVin hWV
        generalize upd H6 t (.tup [V.ref W, V.ref V0]) = H7 at s7 hp7 hD7 n7 ⊢
        refine ⟨D, _, _, rfl, rfl, hD7, by rw [List.length_map, hL, hF]; exact sz_lt (by omega), ?_⟩
        have oD2 := not_inner_snoc (t := t) oD hWD.symm hVD.symm
        refine ⟨_, _, _, F ++ [(wd, ws)], L ++ [(t, W, V0)], rfl, (xB.trans (.of s7)).mut (.inr hD0), hp7.upd hDp, ?_, n7.upd hD7 oD2, oD2, by rw [List.length_append, hF]; rfl, fun s hs => ?_, fun s hs => ?_⟩
        · rw [upd_same, List.map_append]
          rfl
        · rcases List.mem_append.mp hs with h | h
          · exact hok s h
          · rw [List.mem_singleton.mp h]
            exact ⟨by show wd.length ≤ 8; omega, hwt, hwl, hwn⟩
        · rcases List.mem_append.mp hs with h | h
          · exact hlg s h
          · rw [List.mem_singleton.mp h]
            exact hwl2
    · rintro σ H2 ⟨v6, v7, v8, F, L, rfl, x2, p2, hD2, nL, oD, hF, hok, hlg⟩
      exact ⟨_, rfl, q F L D H2 ⟨by omega, by omega, fun s hs => by rw [hF]; exact hok s hs⟩ (by omega) hlg x2 p2 ⟨hD2, nL, .of hD0, oD⟩⟩
theorem ok__law_eaten (X : TX K mg) : FnOk P w K mg base CX0 3 X.d__law_eaten.a X.d__law_eaten.fd ["tags", "standings", "subject"] spMade := by
  have nd := sc__law_eaten.nd
  refine X.d__law_eaten.F.ok sc__law_eaten (fun vs H Q E h => ?_) (fun cdv A outer s H vs Q E hr h => ?_)
  · obtain ⟨a, b, c, tags, F, wd, rfl, _⟩ := h
    rfl
  · obtain ⟨a, b, c, tags, F, wd, rfl, hT, hF, hw, g, hin, hz, hz2, k⟩ := h
    refine ⟨_, (pss_cons (ps_asg (pe_tup (pa_cons pe_int (pa_cons pe_int pa_nil))) (pg_tup (by rfl) (pgs_cons (pg_name (i := 3) nd rfl (Or.inl rfl)) (pgs_cons (pg_name (i := 4) nd rfl (Or.inl rfl)) (pgs_nil))))) (pss_cons (ps_while PassesOwn.never (PW.pt (pw_and (pt_cmpR op_lt (pv 4) (pe_callB (QB.call_lenK K) (by rfl) X.n_len PySem.boot_len (pa_cons (pv 2) pa_nil)) (nomark _)) (pw_and1 (pt_cmpR op_notN (pe_ix (QB.ix_listK K) (pe_ix (QB.ix_tupK K) (pe_ix (QB.ix_listK K) (pv 1) (pv 3) (fun _ _ => rfl)) pe_int (fun _ _ => rfl)) (QB.pe_bmK K PySem.F.plainAttrs_list PySem.F.slot_list_index PySem.F.type_list_index (QB.mt_indexK K) (pv 0) (pa_cons (pe_ix (QB.ix_listK K) (pv 2) (pv 4) (fun _ _ => rfl)) pa_nil)) (fun _ _ => rfl)) pe_non (nomark _))))) (pss_cons (ps_set (i := 3) nd rfl (Or.inl rfl) (pe_ix (QB.ix_listK K) (pe_ix (QB.ix_tupK K) (pe_ix (QB.ix_listK K) (pv 1) (pv 3) (fun _ _ => rfl)) pe_int (fun _ _ => rfl)) (QB.pe_bmK K PySem.F.plainAttrs_list PySem.F.slot_list_index PySem.F.type_list_index (QB.mt_indexK K) (pv 0) (pa_cons (pe_ix (QB.ix_listK K) (pv 2) (pv 4) (fun _ _ => rfl)) pa_nil)) (fun _ _ => rfl))) (pss_one (ps_set (i := 4) nd rfl (Or.inl rfl) (pe_op op_add (pv 4) pe_int))))) (pss_one (ps_ret (pe_op op_cat (pe_ix (QB.ix_tupK K) (pe_ix (QB.ix_listK K) (pv 1) (pv 3) (fun _ _ => rfl)) pe_int (fun _ _ => rfl)) (pe_slice (QB.sl_listK K) (pv 2) (po_some (pv 4)) po_none)))))), ?_⟩
    try dsimp only [Cx.nox, Cx.wish, cxOf]
    refine ⟨by show 2 ≤ sizeLine; decide, fun tp htp => ?_⟩
    have s0 := same_new (o := .tup [V.int 0, V.int 0]) htp
    refine ⟨tp, _, rfl, SqT.of upd_same, rfl, _, _, rfl, _, _, rfl, rfl, ?_⟩
    generalize upd H tp (.tup [V.int 0, V.int 0]) = H0 at s0 ⊢
    refine ⟨fun m σ H' => ∃ at_ cnt : Nat, σ = [some (.ref a), some (.ref b), some (.ref c), some (.int (at_ : Int)), some (.int (cnt : Int))] ∧ Same H H' ∧ m = wd.length - cnt ∧ cnt ≤ wd.length ∧ at_ < F.length ∧ walkFrom tags F at_ cnt (wd.drop cnt) = walk tags F wd,
      ⟨_, 0, 0, rfl, s0, rfl, Nat.zero_le _, g.pos, rfl⟩, ?_⟩
    rintro m σ H1 ⟨at_, cnt, rfl, s1, rfl, hc, hat, hwk⟩
    refine ⟨_, rfl, _, rfl, _, _, rfl, .inl (SqL.of (Same.word s1 hw)), _, _, rfl, rfl, _, rfl, ?_⟩
    rw [vS_len]
    have eF : F[at_]? = some F[at_] := by simp [hat]
    have fin : ∀ (e : walk tags F wd = (at_, cnt)), ∀ (p : Addr) (H' : Hp), Same H1 H' → H1 p = none → H' p = some (.lst (vS (F[at_].1 ++ wd.drop cnt))) → Q (.ref p) H' := fun e p H' s' n' h' => by
      refine k p H' (s1.trans s') (s1.free n') ?_
      rw [h']
      unfold make
      rw [e, wordOf_of eF]
    obtain ⟨vs, t, p1, p2, f1, f2, f3, f4, f5, f6⟩ := (Same.form s1 hF).at eF
    have ret : (∀ (e : walk tags F wd = (at_, cnt)), tRet (tOp rCat (tOp (rIxT K) (tOp (rIxL K) (tVar 1) (tVar 3)) (tC (V.int 0))) (tSl (rSlL K) (tVar 2) (tPart (tVar 4)) tNoPart)) { nx := fun x H' => Q V.non H', rt := Q } [some (.ref a), some (.ref b), some (.ref c), some (.int (at_ : Int)), some (.int (cnt : Int))] H1) := fun e => by
      refine ⟨_, rfl, _, rfl, _, _, _, _, rfl, rfl, SqL.of f1, atI_nat f3, _, _, _, _, rfl, rfl, SqT.of f4, rfl, ?_⟩
      refine ⟨_, rfl, _, rfl, _, rfl, _, _, rfl, SqL.of (Same.word s1 hw), fun q hq => ?_⟩
      rw [cut_drop, vS_drop]
      refine ⟨_, _, _, _, rfl, rfl, Eq.trans (upd_ne (ne_of_none f5 hq)) f5, upd_same, ?_, fun p hp => ?_⟩
      · have z1 := hz2 _ (mem_of eF)
        have z2 : (wd.drop cnt).length ≤ wd.length := by rw [List.length_drop]; omega
        rw [vS_len, vS_len]
        exact sz_le (by omega)
      · have s2 : Same H1 (upd H1 q (.lst (vS (wd.drop cnt)))) := same_new hq
        refine fin e p _ (Same.new s2 hp) (s2.free hp) ?_
        rw [upd_same, vS_append]
    by_cases hlt : cnt < wd.length
    · rw [decide_eq_true (by omega)]
      refine iteT ?_
      have hx : wd[cnt]? = some wd[cnt] := List.getElem?_eq_getElem hlt
      have hxt : wd[cnt] ∈ tags := hin _ (List.mem_of_getElem? hx)
      have ed : wd.drop cnt = wd[cnt] :: wd.drop (cnt + 1) := List.drop_eq_getElem_cons hlt
      rw [ed] at hwk
      unfold walkFrom at hwk
      rw [wayAt_of eF] at hwk
      generalize wd[cnt] = tg at hx hxt hwk
      refine ⟨_, rfl, _, rfl, _, _, _, _, rfl, rfl, SqL.of f1, atI_nat f3, _, _, _, _, rfl, rfl, SqT.of f4, rfl, ?_⟩
      refine ⟨_, rfl, .inl ⟨rfl, _, SqL.of (Same.word s1 hT)⟩, _, rfl, _, rfl, _, _, _, _, rfl, rfl, SqL.of (Same.word s1 hw), atI_nat (vS_get hx), ?_⟩
      dsimp only [tNil]
      refine index_word (Same.word s1 hT) hxt ?_
      refine ⟨_, _, _, _, rfl, rfl, SqL.of f6, atI_nat (vWs_get (g.way eF hxt)), rfl, _, rfl, ?_⟩
      cases e : way tags F[at_] tg with
      | none =>
        rw [e] at hwk
        refine iteF ?_
        exact ret hwk.symm
      | some n =>
        rw [e] at hwk
        refine iteT ?_
        refine ⟨fun σ H' => ∃ at_ : Nat, σ = [some (.ref a), some (.ref b), some (.ref c), some (.int (at_ : Int)), some (.int ((cnt + 1 : Nat) : Int))] ∧ Same H H' ∧ at_ < F.length ∧ walkFrom tags F at_ (cnt + 1) (wd.drop (cnt + 1)) = walk tags F wd, ?_, ?_⟩
        · rintro σ' H' ⟨at2, rfl, s2, h2, h3⟩
          exact ⟨_, by omega, at2, cnt + 1, rfl, s2, rfl, by omega, h2, h3⟩
        · refine ⟨_, rfl, _, rfl, _, _, _, _, rfl, rfl, SqL.of f1, atI_nat f3, _, _, _, _, rfl, rfl, SqT.of f4, rfl, ?_⟩
          refine ⟨_, rfl, .inl ⟨rfl, _, SqL.of (Same.word s1 hT)⟩, _, rfl, _, rfl, _, _, _, _, rfl, rfl, SqL.of (Same.word s1 hw), atI_nat (vS_get hx), ?_⟩
          dsimp only [tNil]
          refine index_word (Same.word s1 hT) hxt ?_
          refine ⟨_, _, _, _, rfl, rfl, SqL.of f6, atI_nat (vWs_get (g.way eF hxt)), ?_⟩
          rw [e]
          exact ⟨_, rfl, _, _, rfl, rfl, n, rfl, s1, g.wayLt eF hxt e, hwk⟩
    · rw [decide_eq_false (by omega)]
      refine iteF (iteF ?_)
      have hd : wd.drop cnt = [] := List.drop_eq_nil_of_le (by omega)
      rw [hd] at hwk
      exact ret hwk.symm
end
end Law
end

section
set_option Elab.async false
set_option linter.all false
set_option maxRecDepth 100000
set_option maxHeartbeats 4000000
namespace Law
open PySem PySem.Spec PyProof.Rows L2 LamX QB QM QV
open TL
/-- no run without a line's end is longer than n -/
def Run (n : Nat) (l : List Nat) : Prop := ∀ a b c, l = a ++ (b ++ c) → 10 ∉ b → b.length ≤ n
theorem Run.mono {n m : Nat} {l : List Nat} (h : Run n l) (k : n ≤ m) : Run m l := fun a b c e f => Nat.le_trans (h a b c e f) k
theorem Run.app {n m : Nat} {x y : List Nat} (hx : Run n x) (hy : Run m y) : Run (n + m) (x ++ y) := fun a b c e f => by
  rcases List.append_eq_append_iff.mp e with ⟨a', e1, e2⟩ | ⟨c', e1, e2⟩
  · have := hy a' b c e2 f
    omega
  · rcases List.append_eq_append_iff.mp e2 with ⟨a'', e3, e4⟩ | ⟨c'', e3, e4⟩
    · have := hx a b a'' (by rw [e1, e3]) f
      omega
    · have h1 := hx a c' [] (by rw [e1, List.append_nil]) (fun z => f (by rw [e3]; exact List.mem_append_left _ z))
      have h2 := hy [] c'' c e4 (fun z => f (by rw [e3]; exact List.mem_append_right _ z))
      rw [e3, List.length_append]
      omega
theorem Run.sub {n : Nat} {x l z : List Nat} (h : Run n (x ++ (l ++ z))) : Run n l := fun a b c e f => h (x ++ a) b (c ++ z) (by rw [e]; simp only [List.append_assoc]) f
theorem Run.take {n : Nat} {l : List Nat} (h : Run n l) (k : Nat) : Run n (l.take k) := Run.sub (x := []) (z := l.drop k) (by rw [List.nil_append, List.take_append_drop]; exact h)
theorem Run.drop {n : Nat} {l : List Nat} (h : Run n l) (k : Nat) : Run n (l.drop k) := Run.sub (x := l.take k) (z := []) (by rw [List.append_nil, List.take_append_drop]; exact h)
theorem run_short (l : List Nat) : Run l.length l := fun a b c e _ => by
  rw [e, List.length_append, List.length_append]
  omega
theorem Run.sep {n : Nat} {x y : List Nat} (hx : Run n x) (hy : Run n y) : Run n (x ++ 10 :: y) := fun a b c e f => by
  rcases List.append_eq_append_iff.mp e with ⟨a', e1, e2⟩ | ⟨c', e1, e2⟩
  · cases a' with
    | nil =>
      cases b with
      | nil => exact Nat.zero_le _
      | cons d b =>
        rw [List.nil_append, List.cons_append] at e2
        injection e2 with e2 e3
        exact absurd (by rw [← e2]; exact List.mem_cons_self) f
    | cons d a' =>
      rw [List.cons_append] at e2
      injection e2 with e2 e3
      exact hy a' b c e3 f
  · rcases List.append_eq_append_iff.mp e2 with ⟨a'', e3, e4⟩ | ⟨c'', e3, e4⟩
    · exact hx a b a'' (by rw [e1, e3]) f
    · cases c'' with
      | nil =>
        rw [List.append_nil] at e3
        exact hx a b [] (by rw [e1, e3, List.append_nil]) f
      | cons d c'' =>
        rw [List.cons_append] at e4
        injection e4 with e4 e5
        exact absurd (by rw [e3, ← e4]; exact List.mem_append_right _ List.mem_cons_self) f
theorem run_join {n : Nat} : ∀ {ps : List (List Nat)}, (∀ p ∈ ps, Run n p) → Run n (joinL [10] ps)
  | [], _ => fun a b c e _ => by
    have e : ([] : List Nat) = a ++ (b ++ c) := e
    have := congrArg List.length e
    rw [List.length_append, List.length_append] at this
    have : 0 = a.length + (b.length + c.length) := this
    omega
  | [p], h => h p List.mem_cons_self
  | p :: q :: r, h => (h p List.mem_cons_self).sep (run_join fun x hx => h x (List.mem_cons_of_mem _ hx))
theorem pre10 (x : Nat) (r : List Nat) : pre [10] (x :: r) = (x == 10) := by
  show ([x] == [10]) = _
  cases h : x == 10 with
  | true =>
    rw [beq_iff_eq] at h
    rw [h]
    rfl
  | false =>
    rw [beq_eq_false_iff_ne] at h ⊢
    exact fun z => h (by injection z)
theorem spl_infix : ∀ (l acc p : List Nat), 10 ∉ acc → p ∈ spl [10] 0 acc l → ∃ a c, acc ++ l = a ++ (p ++ c) ∧ 10 ∉ p
  | [], acc, p, h, hp => by
    rw [spl_nil, List.mem_singleton] at hp
    subst hp
    exact ⟨[], [], rfl, h⟩
  | x :: r, acc, p, h, hp => by
    by_cases hx : x = 10
    · rw [spl_hit (by rw [pre10, hx]; rfl)] at hp
      rcases List.mem_cons.mp hp with rfl | hp
      · exact ⟨[], x :: r, rfl, h⟩
      · obtain ⟨a, c, e, f⟩ := spl_infix r [] p (fun z => nomatch z) hp
        rw [List.nil_append] at e
        exact ⟨acc ++ x :: a, c, by rw [e, List.append_assoc]; rfl, f⟩
    · rw [spl_miss (by rw [pre10, beq_eq_false_iff_ne]; exact hx)] at hp
      obtain ⟨a, c, e, f⟩ := spl_infix r (acc ++ [x]) p (fun z => by
        rcases List.mem_append.mp z with z | z
        · exact h z
        · exact hx (List.mem_singleton.mp z).symm) hp
      rw [List.append_assoc] at e
      exact ⟨a, c, e, f⟩
theorem nl : tl (Str.ofString "\n") = 10 :: [] := by decide +kernel
theorem split_nl (t : Str) : (Txt.split t (Str.ofString "\n")).map tl = spl [10] 0 [] (tl t) := by
  have := split_spl t (Str.ofString "\n") (by decide +kernel) (kind_ok (by decide +kernel))
  rw [nl] at this
  exact this
theorem lines_run {n : Nat} {t : Str} (h : Run n (tl t)) : ∀ u ∈ Txt.split t (Str.ofString "\n"), Run n (tl u) ∧ u.length ≤ n := fun u hu => by
  have hm : tl u ∈ spl [10] 0 [] (tl t) := by
    rw [← split_nl]
    exact List.mem_map.mpr ⟨u, hu, rfl⟩
  obtain ⟨a, c, e, f⟩ := spl_infix _ [] _ (fun z => nomatch z) hm
  rw [List.nil_append] at e
  rw [e] at h
  exact ⟨h.sub, h a _ c rfl f⟩
/-- what lines weigh -/
def mu (ls : List Str) : Nat := (ls.map fun u => u.length + 1).sum
theorem mu_app (a b : List Str) : mu (a ++ b) = mu a + mu b := by
  unfold mu
  rw [List.map_append, List.sum_append]
theorem mu_rev : ∀ l : List Str, mu l.reverse = mu l
  | [] => rfl
  | x :: l => by
    rw [List.reverse_cons, mu_app, mu_rev l]
    unfold mu
    rw [List.map_cons, List.map_nil, List.sum_cons, List.map_cons, List.sum_cons]
    show _ + (_ + 0) = _
    omega
theorem mu_take (l : List Str) (k : Nat) : mu (l.take k) + mu (l.drop k) = mu l := by rw [← mu_app, List.take_append_drop]
theorem mu_drop (l : List Str) (k : Nat) : mu (l.drop k) ≤ mu l := by
  have := mu_take l k
  omega
theorem mu_sum : ∀ l : List Str, mu l = (l.map (·.length)).sum + l.length
  | [] => rfl
  | x :: l => by
    have := mu_sum l
    unfold mu at this ⊢
    rw [List.map_cons, List.sum_cons, this, List.map_cons, List.sum_cons, List.length_cons]
    omega
theorem mu_join (l : List Str) : (Txt.join (Str.ofString "\n") l).length ≤ mu l := by
  have := join_len (Str.ofString "\n") l
  have en : (Str.ofString "\n").length = 1 := by decide +kernel
  rw [en] at this
  rw [mu_sum]
  omega
theorem spl_mu : ∀ (l acc : List Nat), ((spl [10] 0 acc l).map fun p => p.length + 1).sum = acc.length + l.length + 1
  | [], acc => by
    rw [spl_nil]
    show acc.length + 1 + 0 = acc.length + 0 + 1
    omega
  | x :: r, acc => by
    by_cases hx : x = 10
    · rw [spl_hit (by rw [pre10, hx]; rfl)]
      show (((acc :: spl [10] 0 [] r)).map fun p => p.length + 1).sum = _
      rw [List.map_cons, List.sum_cons, spl_mu r [], List.length_cons]
      show acc.length + 1 + (0 + r.length + 1) = _
      omega
    · rw [spl_miss (by rw [pre10, beq_eq_false_iff_ne]; exact hx), spl_mu r, List.length_append, List.length_cons, List.length_cons]
      show acc.length + (0 + 1) + r.length + 1 = _
      omega
theorem mu_split (t : Str) : mu (Txt.split t (Str.ofString "\n")) = t.length + 1 := by
  have e : mu (Txt.split t (Str.ofString "\n")) = (((Txt.split t (Str.ofString "\n")).map tl).map fun p => p.length + 1).sum := by
    rw [List.map_map]
    rfl
  rw [e, split_nl, spl_mu]
  show 0 + t.length + 1 = _
  omega
theorem run_joinS {n : Nat} {ls : List Str} (h : ∀ u ∈ ls, Run n (tl u)) : Run n (tl (Txt.join (Str.ofString "\n") ls)) := by
  rw [join_eq, tl_join, nl]
  exact run_join fun p hp => by
    obtain ⟨u, hu, rfl⟩ := List.mem_map.mp hp
    exact h u hu
theorem new_cutL {H : Hp} {p : Addr} (ls : Word) (k : Nat) : WordAt (upd H p (.lst (cutV (vS ls) none (some (k : Int))))) p (ls.take k) := by
  unfold WordAt
  rw [upd_same, cut_take, vS_take]
theorem new_cutR {H : Hp} {p : Addr} (ls : Word) (k : Nat) : WordAt (upd H p (.lst (cutV (vS ls) (some (k : Int)) none))) p (ls.drop k) := by
  unfold WordAt
  rw [upd_same, cut_drop, vS_drop]
theorem new_cat {H : Hp} {p : Addr} (a b : Word) : WordAt (upd H p (.lst (vS a ++ vS b))) p (a ++ b) := by
  unfold WordAt
  rw [upd_same]
  show some (HO.lst (a.map V.str ++ b.map V.str)) = some (HO.lst ((a ++ b).map V.str))
  rw [List.map_append]
def Tx (n m : Nat) (v : V) : Prop := ∃ u : Str, v = .str u ∧ u.length ≤ n ∧ Run m (tl u)
theorem cut_lensL (t : Str) (k : Nat) : (cutS t none (some (k : Int))).length + (cutS t (some (k : Int)) none).length = t.length := by
  have e1 : (cutS t none (some (k : Int))).length = (tl (cutS t none (some (k : Int)))).length := rfl
  have e2 : (cutS t (some (k : Int)) none).length = (tl (cutS t (some (k : Int)) none)).length := rfl
  have e3 : t.length = (tl t).length := rfl
  rw [e1, e2, QT.tl_cutL, QT.tl_cutR, List.length_take, List.length_drop, e3]
  omega
end Law
end

section
set_option Elab.async false
set_option linter.all false
set_option maxRecDepth 100000
set_option maxHeartbeats 4000000
namespace Law
open PySem PySem.Spec PyProof.Rows L2 LamX QB QM QV
open TL
section
variable {P : Program} {w : World} {K : PySem.W.Frag} {mg : Str → Option Value} {base : Heap}
def spBent : Sp := fun vs H Q _ => ∃ (p a : Addr) (t : Str) (tags : Word) (n : Nat), vs = [.ref p, .str t, .ref a] ∧ PileAt H p ∧ WordAt H a tags ∧ TagsOk tags ∧ t.length ≤ 990 ∧ Run n (tl t) ∧
  ∀ (u : Str) (H' : Hp), Exc [p] H H' → PileAt H' p → u.length ≤ 2 * t.length + 12 → Run (2 * n + 11) (tl u) → Q (.str u) H'
theorem ok__law_bent (X : TX K mg) : FnOk P w K mg base CX0 4 X.d__law_bent.a X.d__law_bent.fd ["pile", "text", "tags"] spBent := by
  have nd := sc__law_bent.nd
  refine X.d__law_bent.F.ok sc__law_bent (fun vs H Q E h => ?_) (fun cdv A outer s0 H vs Q E hr h => ?_)
  · obtain ⟨p, a, t, tags, n, rfl, _⟩ := h
    rfl
  · obtain ⟨p, a, t, tags, n, rfl, hp, ha, to, hl, rt, k⟩ := h
    refine ⟨_, (pss_cons (ps_set (i := 3) nd rfl (Or.inl rfl) (pe_call (ok__law_take X) (hr.mono (by decide)) rfl X.d__law_take.mg X.d__law_take.F.kp X.d__law_take.b .nil pass0 (pa_cons (pv 0) (pa_cons (pe_op op_add (pe_callB call_len_str (by rfl) X.n_len PySem.boot_len (pa_cons (pv 1) pa_nil)) pe_int) pa_nil)))) (pss_cons (ps_set (i := 4) nd rfl (Or.inl rfl) (pe_ix (QB.ix_listK K) (pe_lst (pa_cons pe_str (pa_cons pe_str (pa_cons pe_str (pa_cons pe_str (pa_cons pe_str (pa_cons pe_str (pa_cons pe_str (pa_cons pe_str (pa_cons (pe_ix (QB.ix_listK K) (pv 2) pe_int (fun _ _ => rfl)) (pa_cons (pe_op op_add_str (pe_op op_add_str pe_str (pe_ix (QB.ix_listK K) (pv 2) pe_int (fun _ _ => rfl))) pe_str) pa_nil))))))))))) (pe_call (ok__law_take X) (hr.mono (by decide)) rfl X.d__law_take.mg X.d__law_take.F.kp X.d__law_take.b .nil pass0 (pa_cons (pv 0) (pa_cons pe_int pa_nil))) (fun _ _ => rfl))) (pss_cons (ps_set (i := 5) nd rfl (Or.inl rfl) (pe_split (pv 1) pe_str)) (pss_cons (ps_set (i := 6) nd rfl (Or.inl rfl) (pe_call (ok__law_take X) (hr.mono (by decide)) rfl X.d__law_take.mg X.d__law_take.F.kp X.d__law_take.b .nil pass0 (pa_cons (pv 0) (pa_cons (pe_callB (QB.call_lenK K) (by rfl) X.n_len PySem.boot_len (pa_cons (pv 5) pa_nil)) pa_nil)))) (pss_cons (ps_set (i := 7) nd rfl (Or.inl rfl) (pe_lst (pa_cons (pe_op op_add_str (pe_op op_add_str (pe_slice sl_str (pv 1) po_none (po_some (pv 3))) (pv 4)) (pe_slice sl_str (pv 1) (po_some (pv 3)) po_none)) (pa_cons (pe_op op_add_str (pe_slice sl_str (pv 1) po_none (po_some (pv 3))) (pe_slice sl_str (pv 1) (po_some (pe_op op_add (pv 3) pe_int)) po_none)) (pa_cons (pe_op op_add_str (pe_op op_add_str (pe_slice sl_str (pv 1) po_none (po_some (pv 3))) (pv 4)) (pe_slice sl_str (pv 1) (po_some (pe_op op_add (pv 3) pe_int)) po_none)) (pa_cons (pe_op op_add_str (pv 1) pe_str) pa_nil)))))) (pss_cons (ps_set (i := 7) nd rfl (Or.inl rfl) (pe_op op_cat (pv 7) (pe_lst (pa_cons (pe_join pe_str (pe_op op_cat (pe_slice (QB.sl_listK K) (pv 5) po_none (po_some (pv 6))) (pe_slice (QB.sl_listK K) (pv 5) (po_some (pe_op op_add (pv 6) pe_int)) po_none))) (pa_cons (pe_join pe_str (pe_op op_cat (pe_slice (QB.sl_listK K) (pv 5) po_none (po_some (pe_op op_add (pv 6) pe_int))) (pe_slice (QB.sl_listK K) (pv 5) (po_some (pv 6)) po_none))) (pa_cons (pe_op op_add_str (pv 1) pe_str) pa_nil)))))) (pss_one (ps_ret (pe_ix (QB.ix_listK K) (pe_op op_cat (pv 7) (pe_lst (pa_cons (pe_join pe_str (QN.pe_turn K (pv 5))) (pa_cons (pe_op op_add_str (pe_op op_add_str (pe_op op_add_str (pv 1) pe_str) (pe_ix (QB.ix_listK K) (pv 2) (pe_un un_neg pe_int) (fun _ _ => rfl))) pe_str) (pa_cons (pe_op op_add_str pe_str (pv 1)) pa_nil))))) (pe_call (ok__law_take X) (hr.mono (by decide)) rfl X.d__law_take.mg X.d__law_take.F.kp X.d__law_take.b .nil pass0 (pa_cons (pv 0) (pa_cons pe_int pa_nil))) (fun _ _ => rfl)))))))))), ?_⟩
    try dsimp only [Cx.nox, Cx.wish, cxOf]
    have hz : sizeLine = 16777216 := sizeLine_eq
    have ap := hp.word ha
    obtain ⟨t0, tr, rfl⟩ : ∃ t0 tr, tags = t0 :: tr := by
      cases tags with
      | nil => exact absurd to.pos (by decide)
      | cons t0 tr => exact ⟨t0, tr, rfl⟩
    have h0 := (to.names t0 List.mem_cons_self).len
    have htl := to.len
    refine ⟨_, rfl, _, rfl, t, rfl, by omega, _, _, rfl, rfl, ?_⟩
    refine ⟨p, t.length + 1, rfl, by omega, by omega, hp, fun at_ H1 hat x1 p1 => ?_⟩
    have ha1 := wordExc x1 ap ha
    have at0 : atI (vS (t0 :: tr)) 0 = some (.str t0) := atI_nat (j := 0) rfl
    refine ⟨_, rfl, a, _, 0, .str t0, rfl, rfl, SqL.of ha1, at0, _, rfl, a, _, 0, .str t0, rfl, rfl, SqL.of ha1, at0, _, _, rfl, rfl, by show 1 + t0.length ≤ _; omega, _, _, rfl, rfl, by rw [lenZ_add]; show 1 + t0.length + 2 ≤ _; omega, ?_⟩
    refine ⟨by show 10 ≤ sizeLine; decide, fun q1 n1 => ?_⟩
    let signs : List V := [.str (Str.ofString " "), .str (Str.ofString ":"), .str (Str.ofString "="), .str (Str.ofString "0"), .str (Str.ofString "1"), .str (Str.ofString "a"), .str (Str.ofString "\n"), .str (Str.ofString "-"), .str t0, .str (Str.ofString " " ++ t0 ++ Str.ofString "=0")]
    have hsg : ∀ v ∈ signs, ∃ u : Str, v = .str u ∧ u.length ≤ 11 := by
      intro v hv
      have hv : v = .str (Str.ofString " ") ∨ v = .str (Str.ofString ":") ∨ v = .str (Str.ofString "=") ∨ v = .str (Str.ofString "0") ∨ v = .str (Str.ofString "1") ∨ v = .str (Str.ofString "a") ∨ v = .str (Str.ofString "\n") ∨ v = .str (Str.ofString "-") ∨ v = .str t0 ∨ v = .str (Str.ofString " " ++ t0 ++ Str.ofString "=0") := by simpa [signs] using hv
      rcases hv with rfl | rfl | rfl | rfl | rfl | rfl | rfl | rfl | rfl | rfl
      case inr.inr.inr.inr.inr.inr.inr.inr.inl => exact ⟨_, rfl, by omega⟩
      case inr.inr.inr.inr.inr.inr.inr.inr.inr => exact ⟨_, rfl, by rw [lenZ_add, lenZ_add]; show 1 + t0.length + 2 ≤ 11; omega⟩
      all_goals exact ⟨_, rfl, by decide +kernel⟩
    have s1 := same_new (o := .lst signs) n1
    have k1 : (upd H1 q1 (.lst signs)) q1 = some (.lst signs) := upd_same
    have ls : signs.length = 10 := rfl
    have q1p := (p1.ne n1).symm
    have p1' := p1.same s1
    refine ⟨_, rfl, p, 10, rfl, by decide, by decide, p1', fun r2 H2 hr2 x2 p2 => ?_⟩
    have eg : signs[r2]? = some (signs[r2]'(by omega)) := List.getElem?_eq_getElem _
    obtain ⟨sg, esg, lsg⟩ := hsg _ (List.getElem_mem (show r2 < signs.length by omega))
    rw [esg] at eg
    have xA := (x1.trans (.of s1)).trans x2
    have ha2 := wordExc xA ap ha
    refine ⟨q1, _, _, _, rfl, rfl, SqL.of (x2 _ _ (by simpa using q1p) k1), atI_nat eg, ?_⟩
    clear hsg eg esg k1 s1 p1' x1 x2 q1p
    clear_value signs
    show tSeq _ _ _ (List.set _ 4 _) _
    generalize hσ : (List.set _ 4 _) = σ3
    have eσ : σ3 = [some (.ref p), some (.str t), some (.ref a), some (.int (at_ : Int)), some (.str sg), none, none, none] := by
      rw [← hσ]
      rfl
    subst eσ
    clear hσ ls signs
    -- the lines
    have hsl := split_le t (Str.ofString "\n")
    have hpos := split_pos t (Str.ofString "\n") (by decide +kernel) (by decide +kernel)
    have hmu := mu_split t
    have hlr := lines_run rt
    refine ⟨_, rfl, ⟨_, rfl⟩, t, _, rfl, rfl, by decide, sz_le (by omega), fun q2 n2 => ?_⟩
    have s3 := same_new (o := .lst ((Txt.split t (Str.ofString "\n")).map V.str)) n2
    have kq : WordAt (upd H2 q2 (.lst ((Txt.split t (Str.ofString "\n")).map V.str))) q2 (Txt.split t (Str.ofString "\n")) := upd_same
    have p3 := p2.same s3
    have q2p := p3.word kq
    have xB := xA.trans (.of s3)
    have ha3 := Same.word s3 ha2
    generalize upd H2 q2 (.lst ((Txt.split t (Str.ofString "\n")).map V.str)) = H3 at kq p3 xB ha3 ⊢
    clear s3 n2 xA
    have hsl : (Txt.split t (Str.ofString "\n")).length ≤ t.length + 2 := hsl
    generalize Txt.split t (Str.ofString "\n") = ls at kq hsl hpos hmu hlr
    refine ⟨_, rfl, _, rfl, _, _, rfl, .inl (SqL.of kq), ?_⟩
    refine ⟨p, (vS ls).length, rfl, by rw [vS_len]; omega, by rw [vS_len]; omega, p3, fun to_ H4 hto x4 p4 => ?_⟩
    have kq4 := wordExc x4 q2p kq
    have ha4 := wordExc x4 ap ha3
    have xC := xB.trans x4
    clear xB x4 kq ha3 p3 ha2
    -- the texts of the menu
    have c1 := cut_lensL t at_
    have c2 := cut_lensL t (at_ + 1)
    have e1 : ((at_ : Int) + 1) = ((at_ + 1 : Nat) : Int) := by omega
    have rL : Run n (tl (cutS t none (some (at_ : Int)))) := by rw [QT.tl_cutL]; exact rt.take _
    have rR : Run n (tl (cutS t (some (at_ : Int)) none)) := by rw [QT.tl_cutR]; exact rt.drop _
    have rR1 : Run n (tl (cutS t (some ((at_ : Int) + 1)) none)) := by rw [e1, QT.tl_cutR]; exact rt.drop _
    have rS : Run 11 (tl sg) := (run_short (tl sg)).mono lsg
    have one : ∀ x : Str, x.length ≤ 11 → Run 11 (tl x) := fun x hx => (run_short (tl x)).mono hx
    have b1 : Tx (2 * t.length + 12) (2 * n + 11) (.str (cutS t none (some (at_ : Int)) ++ sg ++ cutS t (some (at_ : Int)) none)) := ⟨_, rfl, by rw [lenZ_add, lenZ_add]; omega, by rw [tl_append, tl_append]; exact ((rL.app rS).app rR).mono (by omega)⟩
    have b2 : Tx (2 * t.length + 12) (2 * n + 11) (.str (cutS t none (some (at_ : Int)) ++ cutS t (some ((at_ : Int) + 1)) none)) := ⟨_, rfl, by rw [e1, lenZ_add]; omega, by rw [tl_append]; exact (rL.app rR1).mono (by omega)⟩
    have b3 : Tx (2 * t.length + 12) (2 * n + 11) (.str (cutS t none (some (at_ : Int)) ++ sg ++ cutS t (some ((at_ : Int) + 1)) none)) := ⟨_, rfl, by rw [e1, lenZ_add, lenZ_add]; omega, by rw [tl_append, tl_append]; exact ((rL.app rS).app rR1).mono (by omega)⟩
    have b4 : Tx (2 * t.length + 12) (2 * n + 11) (.str (t ++ Str.ofString "\n")) := ⟨_, rfl, by rw [lenZ_add]; show _ + 1 ≤ _; omega, by rw [tl_append]; exact (rt.app (one _ (by decide))).mono (by omega)⟩
    have b7 : Tx (2 * t.length + 12) (2 * n + 11) (.str (t ++ Str.ofString " ")) := ⟨_, rfl, by rw [lenZ_add]; show _ + 1 ≤ _; omega, by rw [tl_append]; exact (rt.app (one _ (by decide))).mono (by omega)⟩
    have joined : ∀ ys : List Str, (∀ u ∈ ys, u ∈ ls) → mu ys ≤ 2 * mu ls → Tx (2 * t.length + 12) (2 * n + 11) (.str (Txt.join (Str.ofString "\n") ys)) := fun ys hy hm => by
      have := mu_join ys
      exact ⟨_, rfl, by omega, (run_joinS fun u hu => (hlr u (hy u hu)).1).mono (by omega)⟩
    have room : ∀ ys : List Str, mu ys ≤ 2 * mu ls → (ys.map (·.length)).sum + ys.length * (Str.ofString "\n").length ≤ 16777216 := fun ys hm => by
      have h1 := mu_sum ys
      have h2 : (Str.ofString "\n").length = 1 := by decide
      rw [h2]
      omega
    have tk : ∀ {k : Nat} {u : Str}, u ∈ ls.take k → u ∈ ls := fun h => List.mem_of_mem_take h
    have dk : ∀ {k : Nat} {u : Str}, u ∈ ls.drop k → u ∈ ls := fun h => List.mem_of_mem_drop h
    have g1 : mu (ls.take to_ ++ ls.drop (to_ + 1)) ≤ 2 * mu ls := by
      have a1 := mu_take ls to_
      have a2 := mu_drop ls (to_ + 1)
      rw [mu_app]
      omega
    have g2 : mu (ls.take (to_ + 1) ++ ls.drop to_) ≤ 2 * mu ls := by
      have a1 := mu_take ls (to_ + 1)
      have a2 := mu_drop ls to_
      rw [mu_app]
      omega
    have g3 : mu ls.reverse ≤ 2 * mu ls := by rw [mu_rev]; omega
    have b5 := joined (ls.take to_ ++ ls.drop (to_ + 1)) (fun u hu => (List.mem_append.mp hu).elim tk dk) g1
    have b6 := joined (ls.take (to_ + 1) ++ ls.drop to_) (fun u hu => (List.mem_append.mp hu).elim tk dk) g2
    have b8 := joined ls.reverse (fun u hu => List.mem_reverse.mp hu) g3
    obtain ⟨tz, hz1, hz2⟩ : ∃ tz : Str, atI (vS (t0 :: tr)) (-1) = some (.str tz) ∧ tz.length ≤ 8 := by
      refine ⟨(t0 :: tr)[tr.length]'(by rw [List.length_cons]; omega), ?_, (to.names _ (List.getElem_mem _)).len⟩
      have e : atI (vS (t0 :: tr)) (-1) = (vS (t0 :: tr))[tr.length]? := by
        unfold atI
        rw [vS_len]
        have e2 : ixN (t0 :: tr).length (-1) = some tr.length := by
          unfold ixN
          rw [if_neg (by omega), if_pos (by rw [List.length_cons]; omega), List.length_cons]
          congr 1
          omega
        rw [e2]
        rfl
      rw [e]
      exact vS_get (List.getElem?_eq_getElem _)
    have b9 : Tx (2 * t.length + 12) (2 * n + 11) (.str (t ++ Str.ofString " " ++ tz ++ Str.ofString "=0")) := by
      have w : (Str.ofString " ").length = 1 := by decide
      have w2 : (Str.ofString "=0").length = 2 := by decide
      refine ⟨_, rfl, by rw [lenZ_add, lenZ_add, lenZ_add]; omega, ?_⟩
      rw [tl_append, tl_append, tl_append]
      have r1 : Run 1 (tl (Str.ofString " ")) := run_short _
      have r2 : Run 2 (tl (Str.ofString "=0")) := run_short _
      have r3 : Run 8 (tl tz) := (run_short (tl tz)).mono hz2
      exact (((rt.app r1).app r3).app r2).mono (by omega)
    have b10 : Tx (2 * t.length + 12) (2 * n + 11) (.str (Str.ofString "-:" ++ t)) := ⟨_, rfl, by rw [lenZ_add]; show 2 + _ ≤ _; omega, by rw [tl_append]; exact ((one _ (by decide)).app rt).mono (by omega)⟩
    refine ⟨_, rfl, _, rfl, _, rfl, t, rfl, by omega, _, rfl, _, _, rfl, rfl, by omega, _, rfl, _, rfl, _, rfl, t, rfl, by omega, _, _, rfl, rfl, by rw [lenZ_add]; omega, ?_⟩
    refine ⟨_, rfl, _, rfl, _, rfl, t, rfl, by omega, _, rfl, _, rfl, _, _, rfl, rfl, _, rfl, t, rfl, by omega, _, _, rfl, rfl, by rw [e1]; omega, ?_⟩
    refine ⟨_, rfl, _, rfl, _, rfl, t, rfl, by omega, _, rfl, _, _, rfl, rfl, by omega, _, rfl, _, rfl, _, _, rfl, rfl, _, rfl, t, rfl, by omega, _, _, rfl, rfl, by rw [e1, lenZ_add]; omega, ?_⟩
    refine ⟨_, rfl, _, _, rfl, rfl, by show _ + 1 ≤ _; omega, by show 4 ≤ sizeLine; decide, fun m1 n3 => ?_⟩
    generalize cutS t none (some (at_ : Int)) ++ sg ++ cutS t (some (at_ : Int)) none = w1 at b1 ⊢
    generalize cutS t none (some (at_ : Int)) ++ cutS t (some ((at_ : Int) + 1)) none = w2 at b2 ⊢
    generalize cutS t none (some (at_ : Int)) ++ sg ++ cutS t (some ((at_ : Int) + 1)) none = w3 at b3 ⊢
    generalize t ++ Str.ofString "\n" = w4 at b4 ⊢
    have sM := same_new (o := .lst [V.str w1, V.str w2, V.str w3, V.str w4]) n3
    have kM : (upd H4 m1 (.lst [V.str w1, V.str w2, V.str w3, V.str w4])) m1 = some (.lst [V.str w1, V.str w2, V.str w3, V.str w4]) := upd_same
    have p5 := p4.same sM
    have kq5 := Same.word sM kq4
    have ha5 := Same.word sM ha4
    have xD := xC.trans (.of sM)
    generalize upd H4 m1 (.lst [V.str w1, V.str w2, V.str w3, V.str w4]) = H5 at kM p5 kq5 ha5 xD ⊢
    clear sM n3 kq4 ha4 p4 xC c1 c2 rL rR rR1
    -- menu + [..]
    refine ⟨_, rfl, ⟨_, rfl⟩, _, rfl, _, rfl, _, rfl, q2, _, rfl, SqL.of kq5, fun d1 n6 => ?_⟩
    have w6 : WordAt (upd H5 d1 (.lst (cutV (vS ls) none (some (to_ : Int))))) d1 (ls.take to_) := new_cutL ls to_
    have s6 := same_new (o := .lst (cutV (vS ls) none (some (to_ : Int)))) n6
    generalize upd H5 d1 (.lst (cutV (vS ls) none (some (to_ : Int)))) = H6 at w6 s6 ⊢
    refine ⟨_, rfl, _, rfl, _, _, rfl, rfl, _, rfl, q2, _, rfl, SqL.of (s6 _ _ kq5), fun d2 n7 => ?_⟩
    have w7 : WordAt (upd H6 d2 (.lst (cutV (vS ls) (some ((to_ : Int) + 1)) none))) d2 (ls.drop (to_ + 1)) := new_cutR ls (to_ + 1)
    have s7 := same_new (o := .lst (cutV (vS ls) (some ((to_ : Int) + 1)) none)) n7
    have w67 := Same.word s7 w6
    have s57 := s6.trans s7
    generalize upd H6 d2 (.lst (cutV (vS ls) (some ((to_ : Int) + 1)) none)) = H7 at w7 w67 s57 ⊢
    refine ⟨d1, d2, _, _, rfl, rfl, w67, w7, by rw [vS_len, vS_len, List.length_take, List.length_drop]; omega, fun d3 n8 => ?_⟩
    have w8 : WordAt (upd H7 d3 (.lst (vS (ls.take to_) ++ vS (ls.drop (to_ + 1))))) d3 (ls.take to_ ++ ls.drop (to_ + 1)) := new_cat _ _
    have s58 := s57.trans (same_new (o := .lst (vS (ls.take to_) ++ vS (ls.drop (to_ + 1)))) n8)
    generalize upd H7 d3 (.lst (vS (ls.take to_) ++ vS (ls.drop (to_ + 1)))) = H8 at w8 s58 ⊢
    refine ⟨_, d3, ls.take to_ ++ ls.drop (to_ + 1), rfl, rfl, .inl (SqL.of w8), room _ g1, ?_⟩
    generalize Txt.join (Str.ofString "\n") (ls.take to_ ++ ls.drop (to_ + 1)) = w5 at b5 ⊢
    refine ⟨⟨_, rfl⟩, _, rfl, _, rfl, _, _, rfl, rfl, _, rfl, q2, _, rfl, SqL.of (s58 _ _ kq5), fun d4 n9 => ?_⟩
    have w9 : WordAt (upd H8 d4 (.lst (cutV (vS ls) none (some ((to_ : Int) + 1))))) d4 (ls.take (to_ + 1)) := new_cutL ls (to_ + 1)
    have s9 := same_new (o := .lst (cutV (vS ls) none (some ((to_ : Int) + 1)))) n9
    have s59 := s58.trans s9
    generalize upd H8 d4 (.lst (cutV (vS ls) none (some ((to_ : Int) + 1)))) = H9 at w9 s59 ⊢
    refine ⟨_, rfl, _, rfl, _, rfl, q2, _, rfl, SqL.of (s59 _ _ kq5), fun d5 n10 => ?_⟩
    have w10 : WordAt (upd H9 d5 (.lst (cutV (vS ls) (some (to_ : Int)) none))) d5 (ls.drop to_) := new_cutR ls to_
    have s10 := same_new (o := .lst (cutV (vS ls) (some (to_ : Int)) none)) n10
    have w910 := Same.word s10 w9
    have s510 := s59.trans s10
    generalize upd H9 d5 (.lst (cutV (vS ls) (some (to_ : Int)) none)) = H10 at w10 w910 s510 ⊢
    refine ⟨d4, d5, _, _, rfl, rfl, w910, w10, by rw [vS_len, vS_len, List.length_take, List.length_drop]; omega, fun d6 n11 => ?_⟩
    have w11 : WordAt (upd H10 d6 (.lst (vS (ls.take (to_ + 1)) ++ vS (ls.drop to_)))) d6 (ls.take (to_ + 1) ++ ls.drop to_) := new_cat _ _
    have s511 := s510.trans (same_new (o := .lst (vS (ls.take (to_ + 1)) ++ vS (ls.drop to_))) n11)
    generalize upd H10 d6 (.lst (vS (ls.take (to_ + 1)) ++ vS (ls.drop to_))) = H11 at w11 s511 ⊢
    refine ⟨_, d6, ls.take (to_ + 1) ++ ls.drop to_, rfl, rfl, .inl (SqL.of w11), room _ g2, ?_⟩
    generalize Txt.join (Str.ofString "\n") (ls.take (to_ + 1) ++ ls.drop to_) = w6' at b6 ⊢
    refine ⟨_, rfl, _, _, rfl, rfl, by show _ + 1 ≤ _; omega, by show 3 ≤ sizeLine; decide, fun m2 n12 => ?_⟩
    generalize t ++ Str.ofString " " = w7' at b7 ⊢
    have kN : (upd H11 m2 (.lst [V.str w5, V.str w6', V.str w7'])) m2 = some (.lst [V.str w5, V.str w6', V.str w7']) := upd_same
    have s512 := s511.trans (same_new (o := .lst [V.str w5, V.str w6', V.str w7']) n12)
    generalize upd H11 m2 (.lst [V.str w5, V.str w6', V.str w7']) = H12 at kN s512 ⊢
    refine ⟨m1, m2, _, _, rfl, rfl, s512 _ _ kM, kN, by show 7 ≤ sizeLine; decide, fun m3 n13 => ?_⟩
    have kO : (upd H12 m3 (.lst ([V.str w1, V.str w2, V.str w3, V.str w4] ++ [V.str w5, V.str w6', V.str w7']))) m3 = some (.lst [V.str w1, V.str w2, V.str w3, V.str w4, V.str w5, V.str w6', V.str w7']) := upd_same
    have s513 := s512.trans (same_new (o := .lst ([V.str w1, V.str w2, V.str w3, V.str w4] ++ [V.str w5, V.str w6', V.str w7'])) n13)
    generalize upd H12 m3 (.lst ([V.str w1, V.str w2, V.str w3, V.str w4] ++ [V.str w5, V.str w6', V.str w7'])) = H13 at kO s513 ⊢
    -- (menu + [..])[..]
    refine ⟨_, rfl, ⟨_, rfl⟩, _, rfl, q2, _, rfl, SqL.of (s513 _ _ kq5), fun d7 n14 => ?_⟩
    have w14 : WordAt (upd H13 d7 (.lst (vS ls).reverse)) d7 ls.reverse := by
      unfold WordAt
      rw [upd_same]
      exact congrArg (fun z => some (HO.lst z)) (List.map_reverse ..).symm
    have s514 := s513.trans (same_new (o := .lst (vS ls).reverse) n14)
    have kO2 := (same_new (o := .lst (vS ls).reverse) n14) _ _ kO
    generalize upd H13 d7 (.lst (vS ls).reverse) = H14 at w14 s514 kO2 ⊢
    refine ⟨_, d7, ls.reverse, rfl, rfl, .inl (SqL.of w14), room _ g3, ?_⟩
    generalize Txt.join (Str.ofString "\n") ls.reverse = w8' at b8 ⊢
    have l1 : (Str.ofString " ").length = 1 := by decide
    have l2 : (Str.ofString "=0").length = 2 := by decide
    refine ⟨_, rfl, _, _, rfl, rfl, by omega, _, rfl, _, rfl, a, _, _, .str tz, rfl, rfl, SqL.of (Same.word s514 ha5), hz1, _, _, rfl, rfl, by rw [lenZ_add]; omega, _, _, rfl, rfl, by rw [lenZ_add, lenZ_add]; omega, ?_⟩
    refine ⟨_, rfl, _, _, rfl, rfl, by show 2 + _ ≤ _; omega, by show 3 ≤ sizeLine; decide, fun m4 n15 => ?_⟩
    generalize t ++ Str.ofString " " ++ tz ++ Str.ofString "=0" = w9' at b9 ⊢
    generalize Str.ofString "-:" ++ t = w10' at b10 ⊢
    have kP : (upd H14 m4 (.lst [V.str w8', V.str w9', V.str w10'])) m4 = some (.lst [V.str w8', V.str w9', V.str w10']) := upd_same
    have sn := same_new (o := .lst [V.str w8', V.str w9', V.str w10']) n15
    have s515 := s514.trans sn
    have kO3 := sn _ _ kO2
    generalize upd H14 m4 (.lst [V.str w8', V.str w9', V.str w10']) = H15 at kP s515 kO3 ⊢
    refine ⟨m3, m4, _, _, rfl, rfl, kO3, kP, by show 10 ≤ sizeLine; decide, fun m5 n16 => ?_⟩
    let menu : List V := [.str w1, .str w2, .str w3, .str w4, .str w5, .str w6', .str w7', .str w8', .str w9', .str w10']
    have hmn : ∀ v ∈ menu, Tx (2 * t.length + 12) (2 * n + 11) v := by
      intro v hv
      have hv : v = .str w1 ∨ v = .str w2 ∨ v = .str w3 ∨ v = .str w4 ∨ v = .str w5 ∨ v = .str w6' ∨ v = .str w7' ∨ v = .str w8' ∨ v = .str w9' ∨ v = .str w10' := by simpa [menu] using hv
      rcases hv with rfl | rfl | rfl | rfl | rfl | rfl | rfl | rfl | rfl | rfl <;> assumption
    have k5 : (upd H15 m5 (.lst menu)) m5 = some (.lst menu) := upd_same
    have s516 := s515.trans (same_new (o := .lst menu) n16)
    have p16 := p5.same s516
    have m5p : m5 ≠ p := fun e => (p5.same s515).ne n16 e.symm
    refine ⟨_, rfl, p, 10, rfl, by decide, by decide, p16, fun r5 H17 hr5 x17 p17 => ?_⟩
    have em : menu[r5]? = some (menu[r5]'hr5) := List.getElem?_eq_getElem _
    obtain ⟨u, eu, lu, ou⟩ := hmn _ (List.getElem_mem (show r5 < menu.length from hr5))
    rw [eu] at em
    refine ⟨m5, _, _, _, rfl, rfl, SqL.of (x17 _ _ (by simpa using m5p) k5), atI_nat em, ?_⟩
    exact k u H17 ((xD.trans (.of s516)).trans x17) p17 lu ou
end
end Law
end

section
set_option linter.all false
set_option autoImplicit false
/-! Qleast4: a least form has no needless way. -/
namespace QM
open PySem QB L2
def allNone (s : Std) : Bool := s.2.all Option.isNone
structure NInv (tags : List Str) (F : Form) (P : List Nat) (st : Form × List Bool) : Prop where
  p : Pruned tags F st
  s : ∀ k ∈ P, st.2.getD k false = allNone (stdOf st.1 k)
  d : ∀ k ∈ P, ∀ t ∈ tags, ∀ m, way tags (stdOf st.1 k) t = some m → (stdOf F m).1 = (stdOf F k).1 ++ [t] → m ∈ P ∧ allNone (stdOf st.1 m) = false
theorem stdOf_set {F : Form} {k j : Nat} {s : Std} (h : k < F.length) : stdOf (F.set k s) j = if k = j then s else stdOf F j := by
  unfold stdOf
  rw [List.getD_eq_getElem?_getD, List.getD_eq_getElem?_getD]
  by_cases e : k = j
  · subst e
    rw [List.getElem?_set_self h, if_pos rfl]
    rfl
  · rw [List.getElem?_set_ne e, if_neg e]
theorem NInv.step {tags : List Str} {F : Form} {P : List Nat} {st : Form × List Bool} (g : Good tags F) (i : NInv tags F P st) {k : Nat} (hk : k < F.length) (hP : k ∉ P) (long : ∀ m, m < F.length → (stdOf F k).1.length < (stdOf F m).1.length → m ∈ P) : NInv tags F (P ++ [k]) (needStep tags F st k) := by
  have p' := i.p.step g hk
  have ss := i.p.std hk
  have gl := g.std_len hk
  have e1 : ∀ j, stdOf (needStep tags F st k).1 j = if k = j then pruneStd tags F st.2 (stdOf st.1 k) else stdOf st.1 j := fun j => stdOf_set (by rw [i.p.len]; exact hk)
  have e2 : ∀ j, (needStep tags F st k).2.getD j false = if k = j then allNone (pruneStd tags F st.2 (stdOf st.1 k)) else st.2.getD j false := fun j => by
    show (st.2.set k _).getD j false = _
    rw [List.getD_eq_getElem?_getD, List.getD_eq_getElem?_getD]
    by_cases e : k = j
    · subst e
      rw [List.getElem?_set_self (by rw [i.p.lenS]; exact hk), if_pos rfl]
      rfl
    · rw [List.getElem?_set_ne e, if_neg e]
  refine ⟨p', fun j hj => ?_, fun j hj t ht m hm hw => ?_⟩
  · rw [e1, e2]
    by_cases e : k = j
    · rw [if_pos e, if_pos e]
    · rw [if_neg e, if_neg e]
      rcases List.mem_append.mp hj with h | h
      · exact i.s j h
      · exact absurd (List.mem_singleton.mp h).symm e
  · rw [e1] at hm ⊢
    by_cases e : k = j
    · subst e
      rw [if_pos rfl, way_prune (by rw [ss.2.1, gl]) ht, ss.1] at hm
      have hw0 := pruneWay_some hm
      have hmF : m < F.length := g.std_to hk (ss.2.2 m (way_mem hw0))
      have hmP := long m hmF (by rw [hw, List.length_append]; show _ < _ + 1; omega)
      have hne : k ≠ m := fun e => hP (e ▸ hmP)
      rw [if_neg hne]
      refine ⟨List.mem_append_left _ hmP, ?_⟩
      rw [← i.s m hmP]
      rw [hw0] at hm
      have hm : (if isNeedless F st.2 (stdOf F k).1 t m = true then none else some m) = some m := hm
      cases hS : st.2.getD m false with
      | false => rfl
      | true =>
        have : isNeedless F st.2 (stdOf F k).1 t m = true := by
          unfold isNeedless
          rw [hS, decide_eq_true hw]
          rfl
        rw [if_pos this] at hm
        cases hm
    · rw [if_neg e] at hm
      rcases List.mem_append.mp hj with h | h
      · obtain ⟨h1, h2⟩ := i.d j h t ht m hm hw
        have hne : k ≠ m := fun e => hP (e ▸ h1)
        rw [if_neg hne]
        exact ⟨List.mem_append_left _ h1, h2⟩
      · exact absurd (List.mem_singleton.mp h).symm e
theorem NInv.fold {tags : List Str} {F : Form} (g : Good tags F) : ∀ (ks P : List Nat) (st : Form × List Bool), NInv tags F P st → (P ++ ks).Nodup → (∀ k, k < F.length ↔ k ∈ P ++ ks) → (ks.Pairwise fun i j => keyOf F i ≤ keyOf F j) → NInv tags F (P ++ ks) (ks.foldl (needStep tags F) st)
  | [], P, st, i, _, _, _ => by rw [List.append_nil]; exact i
  | k :: ks, P, st, i, nd, mem, pw => by
    rw [List.pairwise_cons] at pw
    have hk : k < F.length := (mem k).mpr (List.mem_append_right _ List.mem_cons_self)
    have nd' := List.nodup_append.mp nd
    have hP : k ∉ P := fun h => nd'.2.2 k h k List.mem_cons_self rfl
    have i' := i.step g hk hP fun m hm hl => by
      rcases List.mem_append.mp ((mem m).mp hm) with h | h
      · exact h
      · rcases List.mem_cons.mp h with h | h
        · rw [h] at hl
          omega
        · have := pw.1 m h
          unfold keyOf at this
          omega
    have e : P ++ k :: ks = (P ++ [k]) ++ ks := by simp
    rw [e] at nd mem ⊢
    exact NInv.fold g ks (P ++ [k]) (needStep tags F st k) i' nd mem pw.2
theorem needless_none {tags : List Str} {F : Form} (g : Good tags F) {k m : Nat} {t : Str} (hk : k < F.length) (ht : t ∈ tags) (h : way tags (stdOf (needless tags F) k) t = some m) (hw : (stdOf F m).1 = (stdOf F k).1 ++ [t]) : allNone (stdOf (needless tags F) m) = false := by
  have pm : (byLen F).Perm (List.range F.length) := List.mergeSort_perm _ _
  have pw : (byLen F).Pairwise fun i j => keyOf F i ≤ keyOf F j := by
    have := List.pairwise_mergeSort (le := fun i j => decide (keyOf F i ≤ keyOf F j)) (fun a b c h1 h2 => decide_eq_true (Int.le_trans (of_decide_eq_true h1) (of_decide_eq_true h2)))
      (fun a b => by
        rw [Bool.or_eq_true]
        rcases Int.le_total (keyOf F a) (keyOf F b) with h | h
        · exact .inl (decide_eq_true h)
        · exact .inr (decide_eq_true h)) (List.range F.length)
    exact this.imp fun h => of_decide_eq_true h
  have i := NInv.fold g (byLen F) [] (F, List.replicate F.length false) ⟨Pruned.start tags F, (fun _ h => nomatch h), fun _ h => nomatch h⟩ (pm.nodup_iff.mpr List.nodup_range) (fun k => by
    rw [List.nil_append, pm.mem_iff, List.mem_range]) pw
  rw [List.nil_append] at i
  have hkm : k ∈ byLen F := by rw [pm.mem_iff, List.mem_range]; exact hk
  exact (i.d k hkm t ht m h hw).2
theorem allNone_of {a b : Std} {f : Nat → Nat} (h : a.2.map (Option.map f) = b.2.map (Option.map f)) : allNone a = allNone b := by
  have key : ∀ s : Std, allNone s = (s.2.map (Option.map f)).all Option.isNone := fun s => by
    unfold allNone
    rw [List.all_map]
    congr 1
    funext x
    cases x <;> rfl
  rw [key, key, h]
theorem least_none {tags : List Str} {F : Form} (g : Good tags F) {i j : Nat} {t : Str} (hi : i < (least tags F).length) (ht : t ∈ tags) (h : way tags (stdOf (least tags F) i) t = some j) (hw : (stdOf (least tags F) j).1 = (stdOf (least tags F) i).1 ++ [t]) : allNone (stdOf (least tags F) j) = false := by
  obtain ⟨met, o, hl⟩ := least_ord g
  have gN := needless_good g
  have S := alike_stable gN
  have nl := needless_length g
  have p := (needInv g).p
  rw [o.std hi] at h hw
  have e := way_map tags (stdOf (needless tags F) (met.getD i 0)) (newWay (alike (needless tags F)) met) rfl t
  have h : way tags ((stdOf (needless tags F) (met.getD i 0)).1, (stdOf (needless tags F) (met.getD i 0)).2.map (newWay (alike (needless tags F)) met)) t = some j := h
  rw [e] at h
  cases e1 : way tags (stdOf (needless tags F) (met.getD i 0)) t with
  | none =>
    rw [e1] at h
    cases h
  | some m =>
    rw [e1] at h
    have h : some ((met.map (clsOf (alike (needless tags F)))).idxOf (clsOf (alike (needless tags F)) m)) = some j := h
    have hj := (Option.some.inj h).symm
    have hm := way_mem e1
    obtain ⟨h1, h2⟩ := o.idx hl (o.in_ i hi m hm)
    rw [← hj] at h1 h2
    have hmN := gN.std_to (o.lt hi) hm
    have hjN := o.lt h1
    rw [o.std h1] at hw ⊢
    have hw : (stdOf (needless tags F) (met.getD j 0)).1 = (stdOf (needless tags F) (met.getD i 0)).1 ++ [t] := hw
    rw [S.word _ _ hjN hmN h2] at hw
    have e3 : allNone (newStd (alike (needless tags F)) met (stdOf (needless tags F) (met.getD j 0))) = allNone (stdOf (needless tags F) (met.getD j 0)) := by
      unfold allNone newStd
      rw [List.all_map]
      congr 1
      funext x
      cases x <;> rfl
    rw [e3, allNone_of (S.ways _ _ hjN hmN h2)]
    have hiF : met.getD i 0 < F.length := by rw [← nl]; exact o.lt hi
    refine needless_none g hiF ht e1 ?_
    have w1 := (p.std (show m < F.length by omega)).1
    have w2 := (p.std hiF).1
    rw [← w1, ← w2]
    exact hw
theorem needless_same {tags : List Str} {R : Form} (g : Good tags R) (nd : tags.Nodup) (no : ∀ i j t, i < R.length → t ∈ tags → way tags (stdOf R i) t = some j → (stdOf R j).1 = (stdOf R i).1 ++ [t] → allNone (stdOf R j) = false) : needless tags R = R := by
  have all : ∀ (ks : List Nat) (st : Form × List Bool), st.1 = R → st.2.length = R.length → (∀ k, k < R.length → st.2.getD k false = true → allNone (stdOf R k) = true) → (∀ k ∈ ks, k < R.length) → (ks.foldl (needStep tags R) st).1 = R := by
    intro ks
    induction ks with
    | nil => exact fun st h _ _ _ => h
    | cons k ks ih =>
      intro st h1 hl h2 hk
      have hkR := hk k List.mem_cons_self
      have ps : pruneStd tags R st.2 (stdOf R k) = stdOf R k := by
        have e : pruneWays tags R st.2 (stdOf R k) = (stdOf R k).2 := by
          refine List.ext_getElem? fun q => ?_
          by_cases hq : q < tags.length
          · have e1 : tags[q]? = some tags[q] := List.getElem?_eq_getElem hq
            have hq2 : q < (stdOf R k).2.length := by rw [g.std_len hkR]; exact hq
            have e2 : (stdOf R k).2[q]? = some (stdOf R k).2[q] := List.getElem?_eq_getElem hq2
            rw [pruneWays_get e1 e2, e2]
            generalize (stdOf R k).2[q] = x at e2
            cases x with
            | none => rfl
            | some n =>
              have hn : n < R.length := g.std_to hkR (List.mem_of_getElem? e2)
              have hwy : way tags (stdOf R k) tags[q] = some n := by
                unfold way ixOf
                rw [idxOf_nodup nd hq, e2]
                rfl
              show some (if isNeedless R st.2 (stdOf R k).1 tags[q] n = true then none else some n) = some (some n)
              have hno : ¬ isNeedless R st.2 (stdOf R k).1 tags[q] n = true := fun hd => by
                unfold isNeedless at hd
                rw [Bool.and_eq_true] at hd
                have a1 := h2 n hn hd.1
                have a2 := no k n _ hkR (List.getElem_mem hq) hwy (of_decide_eq_true hd.2)
                rw [a1] at a2
                cases a2
              rw [if_neg hno]
          · rw [List.getElem?_eq_none (by rw [pruneWays_len (g.std_len hkR)]; omega), List.getElem?_eq_none (by rw [g.std_len hkR]; omega)]
        unfold pruneStd
        rw [e]
      refine ih (needStep tags R st k) ?_ (by show (st.2.set k _).length = _; rw [List.length_set, hl]) (fun j hj hs => ?_) fun j hj => hk j (List.mem_cons_of_mem _ hj)
      · show st.1.set k (pruneStd tags R st.2 (stdOf st.1 k)) = R
        rw [h1, ps]
        refine List.ext_getElem? fun q => ?_
        by_cases e : k = q
        · subst e
          rw [List.getElem?_set_self hkR, stdOf_get hkR]
        · rw [List.getElem?_set_ne e]
      · have hs : (st.2.set k (allNone (pruneStd tags R st.2 (stdOf st.1 k)))).getD j false = true := hs
        rw [h1, ps, List.getD_eq_getElem?_getD] at hs
        by_cases e : k = j
        · subst e
          rw [List.getElem?_set_self (by omega)] at hs
          exact hs
        · rw [List.getElem?_set_ne e, ← List.getD_eq_getElem?_getD] at hs
          exact h2 j hj hs
  refine all (byLen R) (R, List.replicate R.length false) rfl List.length_replicate (fun k hk h => ?_) fun k hk => byLen_lt hk
  have h : (List.replicate R.length false).getD k false = true := h
  rw [List.getD_eq_getElem?_getD, List.getElem?_replicate, if_pos hk] at h
  cases h
end QM
end

section
set_option linter.all false
set_option autoImplicit false
/-! Qleast5: the least form of a least form is itself. -/
namespace QM
open PySem QB L2
theorem map_up2 {β γ : Type} {a b : Ways} {f : Option Nat → β} {g : Option Nat → γ} {P : Option Nat → Prop} (ha : ∀ x ∈ a, P x) (hb : ∀ x ∈ b, P x) (up : ∀ x y, P x → P y → f x = f y → g x = g y) (h : a.map f = b.map f) : a.map g = b.map g := by
  induction a generalizing b with
  | nil =>
    cases b with
    | nil => rfl
    | cons y b => cases h
  | cons x a ih =>
    cases b with
    | nil => cases h
    | cons y b =>
      rw [List.map_cons, List.map_cons] at h
      injection h with h3 h4
      rw [List.map_cons, List.map_cons, up x y (ha x List.mem_cons_self) (hb y List.mem_cons_self) h3, ih (fun z hz => ha z (List.mem_cons_of_mem _ hz)) (fun z hz => hb z (List.mem_cons_of_mem _ hz)) h4]
def Resp (F : Form) (E : Nat → Nat → Prop) (cs : List Nat) : Prop := ∀ a b, a < F.length → b < F.length → E a b → clsOf cs a = clsOf cs b
theorem alike_coarse {F : Form} {E : Nat → Nat → Prop} (hw : ∀ a b, a < F.length → b < F.length → E a b → (stdOf F a).1 = (stdOf F b).1)
    (hE : ∀ cs, Resp F E cs → ∀ a b, a < F.length → b < F.length → E a b → (stdOf F a).2.map (Option.map (clsOf cs)) = (stdOf F b).2.map (Option.map (clsOf cs))) : Resp F E (alike F) := by
  have loop : ∀ (f many : Nat) (cs : List Nat), cs.length = F.length → Resp F E cs → Resp F E (alikeLoop F f many cs) := by
    intro f
    induction f with
    | zero => exact fun _ _ _ r => r
    | succ f ih =>
      intro many cs hl r
      unfold alikeLoop
      by_cases hm : many ≤ maxOf cs
      · rw [if_pos hm]
        refine ih _ _ (part_len hl) fun a b ha hb e => ?_
        refine (numb_inj (partKeys_get hl ha) (partKeys_get hl hb)).mpr ?_
        have e1 := r a b ha hb e
        have e2 : (stdOf F a).2.map (wayNum cs) = (stdOf F b).2.map (wayNum cs) := map_up2 (P := fun _ => True) (fun _ _ => trivial) (fun _ _ => trivial) (fun x y _ _ h => wayNum_of h) (hE cs r a b ha hb e)
        unfold partKey
        show NestedKey.tup [.num (clsOf cs a : Int), .tup ((stdOf F a).2.map (wayNum cs))] = .tup [.num (clsOf cs b : Int), .tup ((stdOf F b).2.map (wayNum cs))]
        rw [e1, e2]
      · rw [if_neg hm]
        exact r
  refine loop _ _ _ (by rw [QD.numb_len]; exact List.length_map _) fun a b ha hb e => ?_
  have gi : (wordKeys F)[a]? = some (wordKey (stdOf F a)) := by
    unfold wordKeys
    rw [List.getElem?_map, stdOf_get ha]
    rfl
  have gj : (wordKeys F)[b]? = some (wordKey (stdOf F b)) := by
    unfold wordKeys
    rw [List.getElem?_map, stdOf_get hb]
    rfl
  refine (numb_inj gi gj).mpr ?_
  unfold wordKey
  rw [hw a b ha hb e]
/-- the standings of a form put in order are apart -/
theorem ord_apart {tags : List Str} {F : Form} {met : List Nat} {R : Form} (g : Good tags F) (o : OrdOf F (alike F) met R) (hl : R.length = met.length) : ∀ i j, i < R.length → j < R.length → clsOf (alike R) i = clsOf (alike R) j → i = j := by
  have S := alike_stable g
  have gR := o.good g hl
  have S' := alike_stable gR
  have key : Resp F (fun a b => ∃ i j, i < R.length ∧ j < R.length ∧ clsOf (alike R) i = clsOf (alike R) j ∧ clsOf (alike F) a = clsOf (alike F) (met.getD i 0) ∧ clsOf (alike F) b = clsOf (alike F) (met.getD j 0)) (alike F) := by
    refine alike_coarse (fun a b ha hb e => ?_) fun cs r a b ha hb e => ?_
    · obtain ⟨i, j, hi, hj, h, h1, h2⟩ := e
      rw [S.word a _ ha (o.lt hi) h1, S.word b _ hb (o.lt hj) h2]
      have e := S'.word i j hi hj h
      rw [o.std hi, o.std hj] at e
      exact e
    · obtain ⟨i, j, hi, hj, h, h1, h2⟩ := e
      -- the same class of F, met
      have met_in : ∀ i, i < R.length → ∀ a, a < F.length → clsOf (alike F) a = clsOf (alike F) (met.getD i 0) → ∀ x ∈ (stdOf F a).2, ∀ m, x = some m → m < F.length ∧ clsOf (alike F) m ∈ met.map (clsOf (alike F)) := fun i hi a ha h1 x hx m e => by
        subst e
        refine ⟨g.std_to ha hx, ?_⟩
        have e := S.ways a _ ha (o.lt hi) h1
        have : some (clsOf (alike F) m) ∈ (stdOf F a).2.map (Option.map (clsOf (alike F))) := List.mem_map.mpr ⟨some m, hx, rfl⟩
        rw [e] at this
        obtain ⟨y, hy, ey⟩ := List.mem_map.mp this
        cases y with
        | none => cases ey
        | some n =>
          have ey : some (clsOf (alike F) n) = some (clsOf (alike F) m) := ey
          rw [← Option.some.inj ey]
          exact o.in_ i hi n hy
      have up1 : ∀ x y : Option Nat, (∀ m, x = some m → m < F.length ∧ clsOf (alike F) m ∈ met.map (clsOf (alike F))) → (∀ m, y = some m → m < F.length ∧ clsOf (alike F) m ∈ met.map (clsOf (alike F))) →
          x.map (clsOf (alike F)) = y.map (clsOf (alike F)) → x.map (clsOf cs) = y.map (clsOf cs) := fun x y hx hy e => by
        cases x with
        | none =>
          cases y with
          | none => rfl
          | some n => cases e
        | some m =>
          cases y with
          | none => cases e
          | some n =>
            have e : some (clsOf (alike F) m) = some (clsOf (alike F) n) := e
            obtain ⟨m1, m2⟩ := hx m rfl
            obtain ⟨n1, n2⟩ := hy n rfl
            obtain ⟨q1, q2⟩ := o.idx hl m2
            show some _ = some _
            rw [r m n m1 n1 ⟨_, _, q1, q1, rfl, q2.symm, by rw [q2]; exact (Option.some.inj e).symm⟩]
      have up2 : ∀ x y : Option Nat, (∀ m, x = some m → m < F.length ∧ clsOf (alike F) m ∈ met.map (clsOf (alike F))) → (∀ m, y = some m → m < F.length ∧ clsOf (alike F) m ∈ met.map (clsOf (alike F))) →
          (newWay (alike F) met x).map (clsOf (alike R)) = (newWay (alike F) met y).map (clsOf (alike R)) → x.map (clsOf cs) = y.map (clsOf cs) := fun x y hx hy e => by
        cases x with
        | none =>
          cases y with
          | none => rfl
          | some n => cases e
        | some m =>
          cases y with
          | none => cases e
          | some n =>
            obtain ⟨m1, m2⟩ := hx m rfl
            obtain ⟨n1, n2⟩ := hy n rfl
            obtain ⟨q1, q2⟩ := o.idx hl m2
            obtain ⟨q3, q4⟩ := o.idx hl n2
            have e : some (clsOf (alike R) ((met.map (clsOf (alike F))).idxOf (clsOf (alike F) m))) = some (clsOf (alike R) ((met.map (clsOf (alike F))).idxOf (clsOf (alike F) n))) := e
            show some _ = some _
            rw [r m n m1 n1 ⟨_, _, q1, q3, Option.some.inj e, q2.symm, q4.symm⟩]
      have mi := met_in i hi a ha h1
      have mi' := met_in i hi _ (o.lt hi) rfl
      have mj := met_in j hj b hb h2
      have mj' := met_in j hj _ (o.lt hj) rfl
      rw [map_up mi mi' up1 (S.ways a _ ha (o.lt hi) h1), map_up mj mj' up1 (S.ways b _ hb (o.lt hj) h2)]
      refine map_up2 (f := fun x => (newWay (alike F) met x).map (clsOf (alike R))) mi' mj' up2 ?_
      have e := S'.ways i j hi hj h
      rw [o.std hi, o.std hj] at e
      have e : ((stdOf F (met.getD i 0)).2.map (newWay (alike F) met)).map (Option.map (clsOf (alike R))) = ((stdOf F (met.getD j 0)).2.map (newWay (alike F) met)).map (Option.map (clsOf (alike R))) := e
      rw [List.map_map, List.map_map] at e
      exact e
  intro i j hi hj h
  have e := key _ _ (o.lt hi) (o.lt hj) ⟨i, j, hi, hj, h, rfl, rfl⟩
  have nd := o.m.nd
  have hi' : i < met.length := by omega
  have hj' : j < met.length := by omega
  have g1 : ∀ k (hk : k < met.length), (met.map (clsOf (alike F)))[k]'(by rw [List.length_map]; exact hk) = clsOf (alike F) (met.getD k 0) := fun k hk => by
    rw [List.getElem_map, List.getD_eq_getElem?_getD, List.getElem?_eq_getElem hk]
    rfl
  refine (List.getElem_inj (h₀ := by rw [List.length_map]; exact hi') (h₁ := by rw [List.length_map]; exact hj') nd).mp ?_
  rw [g1 i hi', g1 j hj']
  exact e
end QM
end

section
set_option linter.all false
set_option autoImplicit false
/-! Qleast6: a least form is in order. -/
namespace QM
open PySem QB L2
def orderMet (F : Form) (cs : List Nat) : Nat → List Nat → Form → List Nat
  | 0, met, _ => met
  | f + 1, met, told => if told.length < met.length then
      orderMet F cs f (visitAll cs met (stdOf F (met.getD told.length 0)).2) (told ++ [newStd cs (visitAll cs met (stdOf F (met.getD told.length 0)).2) (stdOf F (met.getD told.length 0))])
    else met
theorem orderMet_pre (F : Form) (cs : List Nat) : ∀ (f : Nat) (met : List Nat) (told : Form), ∃ t, orderMet F cs f met told = met ++ t
  | 0, met, _ => ⟨[], by simp [orderMet]⟩
  | f + 1, met, told => by
    unfold orderMet
    by_cases h : told.length < met.length
    · rw [if_pos h]
      obtain ⟨t1, e1⟩ := visitAll_pre cs (stdOf F (met.getD told.length 0)).2 met
      obtain ⟨t2, e2⟩ := orderMet_pre F cs f (visitAll cs met (stdOf F (met.getD told.length 0)).2) (told ++ [newStd cs (visitAll cs met (stdOf F (met.getD told.length 0)).2) (stdOf F (met.getD told.length 0))])
      exact ⟨t1 ++ t2, by rw [e2, e1, List.append_assoc]⟩
    · rw [if_neg h]
      exact ⟨[], by simp⟩
theorem orderMet_ord {tags : List Str} {F : Form} {cs : List Nat} (g : Good tags F) : ∀ (f : Nat) (met : List Nat) (told : Form), OrdOf F cs met told → F.length + 1 ≤ told.length + f → OrdOf F cs (orderMet F cs f met told) (orderLoop F cs f met told) ∧ (orderLoop F cs f met told).length = (orderMet F cs f met told).length
  | 0, met, told, o, h => by
    have := o.le
    have := o.m.len
    omega
  | f + 1, met, told, o, h => by
    unfold orderLoop orderMet
    by_cases hl : told.length < met.length
    · rw [if_pos hl, if_pos hl]
      exact orderMet_ord g f _ _ (o.step g hl) (by rw [List.length_append]; show _ ≤ told.length + 1 + f; omega)
    · rw [if_neg hl, if_neg hl]
      exact ⟨o, by have := o.le; omega⟩
section
variable {cs cs' M : List Nat} {n0 : Nat} (D : ∀ i j, i < n0 → j < n0 → clsOf cs' i = clsOf cs' j → i = j) (hM : M.length = n0)
include D hM
theorem visitAll_again : ∀ (ws : Ways) (mp t : List Nat), M = visitAll cs mp ws ++ t → visitAll cs' (List.range mp.length) (ws.map (newWay cs M)) = List.range (visitAll cs mp ws).length
  | [], mp, t, _ => rfl
  | w :: ws, mp, t, h => by
    have h' : M = visitAll cs (visit cs mp w) ws ++ t := h
    obtain ⟨t2, e2⟩ := visitAll_pre cs ws (visit cs mp w)
    have hp : M = visit cs mp w ++ (t2 ++ t) := by rw [h', e2, List.append_assoc]
    have one : visit cs' (List.range mp.length) (newWay cs M w) = List.range (visit cs mp w).length := by
      cases w with
      | none => rfl
      | some n =>
        show visit cs' (List.range mp.length) (some ((M.map (clsOf cs)).idxOf (clsOf cs n))) = _
        by_cases hm : clsOf cs n ∈ mp.map (clsOf cs)
        · have ev : visit cs mp (some n) = mp := if_pos hm
          rw [ev] at hp ⊢
          have ei : (M.map (clsOf cs)).idxOf (clsOf cs n) = (mp.map (clsOf cs)).idxOf (clsOf cs n) := by rw [hp, List.map_append, idxOf_pre' hm]
          have hlt := List.idxOf_lt_length_of_mem hm
          rw [List.length_map] at hlt
          rw [ei]
          exact if_pos (List.mem_map.mpr ⟨_, List.mem_range.mpr hlt, rfl⟩)
        · have ev : visit cs mp (some n) = mp ++ [n] := if_neg hm
          rw [ev] at hp ⊢
          have ei : (M.map (clsOf cs)).idxOf (clsOf cs n) = mp.length := by
            rw [hp, List.map_append, List.map_append, List.append_assoc, List.idxOf_append, if_neg hm, List.length_map]
            show List.idxOf (clsOf cs n) (clsOf cs n :: _) + mp.length = mp.length
            rw [List.idxOf_cons_self, Nat.zero_add]
          have hlen : mp.length < n0 := by
            rw [← hM, hp, List.length_append, List.length_append]
            show _ < _ + 1 + _
            omega
          rw [ei, List.length_append]
          have hno : clsOf cs' mp.length ∉ (List.range mp.length).map (clsOf cs') := fun hc => by
            obtain ⟨i, hi, e⟩ := List.mem_map.mp hc
            rw [List.mem_range] at hi
            have := D i mp.length (by omega) hlen e
            omega
          show (if clsOf cs' mp.length ∈ (List.range mp.length).map (clsOf cs') then List.range mp.length else List.range mp.length ++ [mp.length]) = List.range (mp.length + 1)
          rw [if_neg hno, List.range_succ]
    show visitAll cs' (visit cs' (List.range mp.length) (newWay cs M w)) (ws.map (newWay cs M)) = List.range (visitAll cs (visit cs mp w) ws).length
    rw [one]
    exact visitAll_again ws (visit cs mp w) t h'
theorem newStd_again {s : Std} {K : Nat} (hK : K ≤ n0) (hs : ∀ i, some i ∈ s.2 → i < K) : newStd cs' (List.range K) s = s := by
  have nd : ((List.range K).map (clsOf cs')).Nodup := by
    refine List.pairwise_map.mpr (List.nodup_range.imp_of_mem fun {i j} hi hj hne e => hne ?_)
    rw [List.mem_range] at hi hj
    exact D i j (by omega) (by omega) e
  unfold newStd
  have e : s.2.map (newWay cs' (List.range K)) = s.2 := by
    refine (List.map_congr_left fun x hx => ?_).trans (List.map_id _)
    cases x with
    | none => rfl
    | some i =>
      have hi := hs i hx
      have hi' : i < ((List.range K).map (clsOf cs')).length := by rw [List.length_map, List.length_range]; exact hi
      have := idxOf_nodup nd hi'
      rw [List.getElem_map, List.getElem_range] at this
      show some (((List.range K).map (clsOf cs')).idxOf (clsOf cs' i)) = some i
      rw [this]
  rw [e]
end
theorem order_again {tags : List Str} {F : Form} {cs cs' M : List Nat} {R : Form} (g : Good tags F) (oR : OrdOf F cs M R) (hM : R.length = M.length) (D : ∀ i j, i < R.length → j < R.length → clsOf cs' i = clsOf cs' j → i = j) :
    ∀ (f f' : Nat) (mp : List Nat) (told : Form), OrdOf F cs mp told → F.length + 1 ≤ told.length + f → R.length + 1 ≤ told.length + f' → orderMet F cs f mp told = M → orderLoop F cs f mp told = R → orderLoop R cs' f' (List.range mp.length) told = R
  | 0, _, mp, told, o, h, _, _, _ => by
    have := o.le
    have := o.m.len
    omega
  | f + 1, 0, mp, told, o, h, h', eM, _ => by
    obtain ⟨t, e⟩ := orderMet_pre F cs (f + 1) mp told
    rw [eM] at e
    have := o.le
    rw [hM, e, List.length_append] at h'
    omega
  | f + 1, f' + 1, mp, told, o, h, h', eM, eR => by
    unfold orderLoop at eR ⊢
    unfold orderMet at eM
    rw [List.length_range]
    by_cases hl : told.length < mp.length
    · rw [if_pos hl] at eR eM ⊢
      obtain ⟨t, et⟩ := orderMet_pre F cs f (visitAll cs mp (stdOf F (mp.getD told.length 0)).2) (told ++ [newStd cs (visitAll cs mp (stdOf F (mp.getD told.length 0)).2) (stdOf F (mp.getD told.length 0))])
      rw [eM] at et
      obtain ⟨t1, et1⟩ := visitAll_pre cs (stdOf F (mp.getD told.length 0)).2 mp
      have hs : told.length < R.length := by
        rw [hM, et, et1, List.length_append, List.length_append]
        omega
      have gd : (List.range mp.length).getD told.length 0 = told.length := by
        rw [List.getD_eq_getElem?_getD, List.getElem?_range hl]
        rfl
      have gM : M.getD told.length 0 = mp.getD told.length 0 := by
        rw [et, et1, List.append_assoc]
        exact getD_pre hl
      have sR := oR.std hs
      rw [gM] at sR
      have has := visitAll_has cs (stdOf F (mp.getD told.length 0)).2 mp
      have va := visitAll_again (cs' := cs') D hM.symm (stdOf F (mp.getD told.length 0)).2 mp t et
      have n1 : newStd cs (visitAll cs mp (stdOf F (mp.getD told.length 0)).2) (stdOf F (mp.getD told.length 0)) = stdOf R told.length := by
        rw [sR, et, newStd_pre has]
      have st := o.step g hl
      rw [n1] at eR eM st
      have hK : (visitAll cs mp (stdOf F (mp.getD told.length 0)).2).length ≤ R.length := by
        rw [hM]
        have := congrArg List.length et
        rw [List.length_append] at this
        omega
      have n2 : newStd cs' (List.range (visitAll cs mp (stdOf F (mp.getD told.length 0)).2).length) (stdOf R told.length) = stdOf R told.length := by
        refine newStd_again (cs' := cs') D hM.symm hK fun i hi => ?_
        rw [sR] at hi
        obtain ⟨x, hx, e⟩ := List.mem_map.mp (show some i ∈ (stdOf F (mp.getD told.length 0)).2.map (newWay cs M) from hi)
        cases x with
        | none => cases e
        | some n =>
          have e : some ((M.map (clsOf cs)).idxOf (clsOf cs n)) = some i := e
          have hc := has n hx
          rw [← Option.some.inj e, et, List.map_append, idxOf_pre' hc]
          have := List.idxOf_lt_length_of_mem hc
          rwa [List.length_map] at this
      have wR : (stdOf R told.length).2 = (stdOf F (mp.getD told.length 0)).2.map (newWay cs M) := by
        rw [sR]
        rfl
      rw [gd, wR, va, n2]
      exact order_again g oR hM D f f' _ _ st (by rw [List.length_append]; show _ ≤ told.length + 1 + f; omega) (by rw [List.length_append]; show _ ≤ told.length + 1 + f'; omega) eM eR
    · rw [if_neg hl] at eR ⊢
      exact eR
theorem inOrder_again {tags : List Str} {F : Form} (g : Good tags F) : inOrder (inOrder F (alike F)) (alike (inOrder F (alike F))) = inOrder F (alike F) := by
  have o0 : OrdOf F (alike F) [0] [] := ⟨⟨by simp, fun m hm => by rw [List.mem_singleton.mp hm]; exact g.pos⟩, rfl, by simp, fun i hi => absurd hi (Nat.not_lt_zero _), fun i hi => absurd hi (Nat.not_lt_zero _)⟩
  obtain ⟨o, hl⟩ := orderMet_ord g (F.length + 1) [0] [] o0 (by simp)
  have e := order_again g o hl (ord_apart g o hl) (F.length + 1) ((orderLoop F (alike F) (F.length + 1) [0] []).length + 1) [0] [] o0 (by simp) (by simp) rfl rfl
  exact e
theorem least_again {tags : List Str} {F : Form} (g : Good tags F) (nd : tags.Nodup) : least tags (least tags F) = least tags F := by
  have gR := least_good g
  have e := needless_same gR nd fun i j t hi ht h hw => least_none g hi ht h hw
  show inOrder (needless tags (least tags F)) (alike (needless tags (least tags F))) = _
  rw [e]
  exact inOrder_again (needless_good g)
end QM
end

section
set_option Elab.async false
set_option linter.all false
set_option maxRecDepth 100000
set_option maxHeartbeats 4000000
namespace Law
open PySem PySem.Spec PyProof.Rows L2 LamX QB QM QV
/-! what changes in the law: the pile; all else is new -/
theorem pg_tabs {T : List (Addr × Str)} {H H' : Hp} {p : Addr} (t : Tabs T H) (e : Exc [p] H H') (hp : PileAt H p) : Tabs T H' := fun q hq => by
  obtain ⟨ps, h1, h2, h3⟩ := t q hq
  obtain ⟨_, _, _, hp⟩ := hp
  have k : ∀ {a : Addr} {o : HO}, H a = some o → (∀ xs, o ≠ .lst xs) → H' a = some o := fun {a o} h n => e a o (by
    have : a ≠ p := fun z => by
      subst z
      rw [hp] at h
      exact n _ (Option.some.inj h).symm
    simpa using this) h
  refine ⟨ps, k h1 (fun _ z => nomatch z), h2, fun pos cv hc => ?_⟩
  obtain ⟨c, e1, e2⟩ := h3 pos cv hc
  exact ⟨c, e1, k e2 (fun xs z => (show Plain (.lst xs) from trivial).code c _ z.symm)⟩
/-- all but the pile (and tables) stays -/
def Mx (T : List (Addr × Str)) (p : Addr) (H H' : Hp) : Prop := (∀ b o, b ≠ p → H b = some o → (∀ ps, o ≠ .tbl ps) → H' b = some o) ∧ (Tabs T H → Tabs T H') ∧ (PileAt H p → PileAt H' p)
section
variable {T : List (Addr × Str)} {p : Addr} {H H0 H' H'' : Hp}
theorem Mx.refl : Mx T p H H := ⟨fun _ _ _ h _ => h, fun t => t, fun t => t⟩
theorem Mx.trans (a : Mx T p H H') (b : Mx T p H' H'') : Mx T p H H'' := ⟨fun c o n h t => b.1 c o n (a.1 c o n h t) t, fun t => b.2.1 (a.2.1 t), fun t => b.2.2 (a.2.2 t)⟩
theorem Mx.ext (a : QB.Ext T H H') : Mx T p H H' := ⟨fun c o _ h t => a.1 c o h t, a.2, fun h => by
  obtain ⟨d, c, n, h⟩ := h
  exact ⟨d, c, n, a.lst h⟩⟩
theorem Mx.same (a : Same H H') : Mx T p H H' := .ext (.of a)
theorem Mx.exc (a : Exc [p] H H') (hp : PileAt H p) (hp' : PileAt H' p) : Mx T p H H' := ⟨fun c o n h _ => a c o (by simpa using n) h, fun t => pg_tabs t a hp, fun _ => hp'⟩
theorem Mx.lst {q : Addr} {xs : List V} (a : Mx T p H H') (n : q ≠ p) (h : H q = some (.lst xs)) : H' q = some (.lst xs) := a.1 _ _ n h fun _ z => nomatch z
theorem Mx.word {q : Addr} {wd : Word} (a : Mx T p H H') (hp : PileAt H p) (h : WordAt H q wd) : WordAt H' q wd := a.lst (hp.word h) h
theorem Mx.to (x : QB.Ext T H0 H) (f : Fresh H0 p) (a : Mx T p H H') : QB.Ext T H0 H' := ⟨fun b o h n => a.1 b o (f.ne h n) (x.1 b o h n) n, fun t => a.2.1 (x.2 t)⟩
end
theorem Mx.newF {T : List (Addr × Str)} {p b : Addr} {H0 H H' : Hp} {L : List Tri} {F : Form} (hp : PileAt H0 p) (n : NewF H0 H b L F) (a : Mx T p H H') : NewF H0 H' b L F := by
  obtain ⟨_, _, _, hp⟩ := hp
  have ne : ∀ {q : Addr}, Fresh H0 q → q ≠ p := fun {q} f e => by
    subst e
    exact absurd rfl (f.ne hp)
  refine ⟨a.lst (ne n.new) n.lst, ⟨paired_mem n.all.at_ fun x s hx q => ?_, n.all.new, n.all.nd⟩, n.new, n.out⟩
  obtain ⟨f1, f2, f3⟩ := n.all.new x hx
  exact ⟨a.1 _ _ (ne f1) q.1 fun _ z => (nomatch z), a.lst (ne f2) q.2.1, a.lst (ne f3) q.2.2⟩
theorem Mx.eatN {T : List (Addr × Str)} {C e dx c b : Addr} {H0 H H' : Hp} {p : Addr} {L : List Tri} {tags : Word} {G : Form} (hp : PileAt H0 p) (n : EatN C H0 H e dx c b L tags G) (a : Mx T p H H') : EatN C H0 H' e dx c b L tags G := by
  have hp' := hp
  obtain ⟨_, _, _, hp⟩ := hp
  have ne : ∀ {q : Addr}, Fresh H0 q → q ≠ p := fun {q} f e => by
    subst e
    exact absurd rfl (f.ne hp)
  exact ⟨a.1 _ _ (ne n.fe) n.ins fun _ z => (nomatch z), a.lst (ne n.fa) n.tags, Mx.newF hp' n.form a, n.fe, n.fa⟩
/-- a form, an eater that stays while the pile changes -/
def FmP (p : Addr) (H : Hp) (f : Addr) (F : Form) : Prop := ∃ Hb L, PileAt Hb p ∧ NewF Hb H f L F
def EtP (C p : Addr) (H : Hp) (e : Addr) (tags : Word) (G : Form) : Prop := ∃ Hc dx a b M, PileAt Hc p ∧ EatN C Hc H e dx a b M tags G
theorem FmP.mx {T : List (Addr × Str)} {p f : Addr} {H H' : Hp} {F : Form} (h : FmP p H f F) (x : Mx T p H H') : FmP p H' f F := by
  obtain ⟨Hb, L, a, b⟩ := h
  exact ⟨Hb, L, a, Mx.newF a b x⟩
theorem FmP.form {p f : Addr} {H : Hp} {F : Form} (h : FmP p H f F) : FormAt H f F := by
  obtain ⟨Hb, L, a, b⟩ := h
  exact b.form
theorem EtP.mx {T : List (Addr × Str)} {C p e : Addr} {H H' : Hp} {tags : Word} {G : Form} (h : EtP C p H e tags G) (x : Mx T p H H') : EtP C p H' e tags G := by
  obtain ⟨Hc, dx, c, b, M, h1, h2⟩ := h
  exact ⟨Hc, dx, c, b, M, h1, Mx.eatN h1 h2 x⟩
theorem EtP.at_ {C p e : Addr} {H : Hp} {tags : Word} {G : Form} (h : EtP C p H e tags G) : EatAt C H e tags G := by
  obtain ⟨_, _, _, _, _, _, h⟩ := h
  exact h.at_
theorem FormOk.leastOk {tags : Word} {F : Form} (fo : FormOk tags F) : FormOk tags (least tags F) := by
  have g := least_good fo.good
  have l := least_len fo.good
  have := fo.len
  refine ⟨g.pos, by omega, fun s hs => ?_⟩
  obtain ⟨s', h1, h2⟩ := least_word fo.good hs
  have o := fo.all s' h1
  exact ⟨by rw [h2]; exact o.len, by rw [h2]; exact o.sub, g.len s hs, fun m hm => g.to s hs m hm⟩
theorem FormOk.wordsOk {tags : Word} {F : Form} (to : TagsOk tags) (fo : FormOk tags F) : WordsOk tags F := fo.words to
theorem eatEq {K : PySem.W.Frag} {C : Addr} {H : Hp} {e f : Addr} {tags : Word} {G G2 : Form} {Q : VK} {E : XK} (he : EatAt C H e tags G) (hf : EatAt C H f tags G2) (w1 : WordsOk tags G) (w2 : WordsOk tags G2) (k : Q (.bl (decide (G = G2))) H) : spEqE K C [.ref e, .ref f] H Q E := by
  refine ⟨e, .ref f, tags, G, rfl, he, w1.txt, fun s hs t ht => w1.txt t (w1.sub s hs t ht), .inl ⟨f, tags, G2, rfl, hf, w1.txt, fun s hs t ht => w2.txt t (w2.sub s hs t ht), ?_⟩⟩
  rw [decide_eq_true rfl, Bool.true_and]
  exact k
/-- a def that raises nothing here -/
theorem calm {P : Program} {w : World} {K : PySem.W.Frag} {mg : Str → Option Value} {base : Heap} {k : Nat} {f : Addr} {fd : FuncData} {ps : List Str} {sp : Sp} (F : FnOk P w K mg base (L2.CX P w) k f fd ps sp) :
    FnOk P w K mg base CX0 k f fd ps (fun vs H Q _ => sp vs H Q fun _ _ _ => False) :=
  ⟨fun vs H Q E h => F.len vs H Q _ h, fun A outer s H args us vs Q E hr e0 hb r hs => codeAny_mono (F.run A outer s H args us vs Q _ hr e0 hb r hs) fun r s' h => by
    cases r with
    | ok c => cases c <;> exact h
    | error e =>
      obtain ⟨_, _, _, _, _, _, _, _, _, _, _, _, hE⟩ := h
      exact hE.elim⟩
section
variable {P : Program} {w : World} {K : PySem.W.Frag} {mg : Str → Option Value} {base : Heap}
def spReadE (T : List (Addr × Str)) (C : Addr) : Sp := fun vs H Q _ => ∃ (a : Addr) (t : Str) (tags : Word) (F : Form), vs = [.ref a, .str t] ∧ WordAt H a tags ∧ TagsOk tags ∧ t.length ≤ 7000 ∧ parse tags t = .eater F ∧ Tabs T H ∧
  ∀ e H', QB.Ext T H H' → Tabs T H' → EatAt C H' e tags (least tags F) → Q (.ref e) H'
theorem word_dv {H : Hp} : ∀ wd : Word, DvAll H (vS wd) (wd.map .str)
  | [] => .nil
  | t :: wd => .cons (.str t) (word_dv wd)
theorem tags_dv {H : Hp} {a : Addr} {tags : Word} (h : WordAt H a tags) : Dv H (.ref a) (.list (tags.map .str)) := .lst h (word_dv tags)
theorem words_weight : ∀ {wd : Word}, (∀ t ∈ wd, t.length ≤ 8) → PyData.weightAll (wd.map .str) ≤ 9 * wd.length
  | [], _ => by
    rw [List.map_nil, PyData.weightAll]
    exact Nat.zero_le _
  | t :: wd, h => by
    have a := words_weight fun u hu => h u (List.mem_cons_of_mem _ hu)
    have b := h t List.mem_cons_self
    rw [List.map_cons, PyData.weightAll, w_str, List.length_cons]
    omega
theorem tags_weight {tags : Word} (to : TagsOk tags) : (PyData.list (tags.map .str)).weight ≤ 54 := by
  rw [w_list]
  have a := words_weight (wd := tags) fun t ht => (to.names t ht).len
  have b := to.len
  omega
theorem ok_read_eater (X : TX K mg) (TB : LamX.TabB base mg X.lam_c X.lam_P) : FnOk P w K mg base CX0 7 X.d_read_eater.a X.d_read_eater.fd ["tags", "text"] (spReadE (Tof X) X.c_Eater) := by
  refine (calm (okx_read_eater X TB)).imp fun vs H Q _ h => ?_
  obtain ⟨a, t, tags, F, rfl, ha, to, hz, hp, tb, k⟩ := h
  refine ⟨.ref a, .str t, .list (tags.map .str), .str t, H, rfl, tags_dv ha, .str t, ?_, ?_, tb, .refl, fun iv e => ?_, fun tags' to' e => ?_⟩
  · have := tags_weight to
    omega
  · rw [w_str]
    omega
  · rw [due_none to] at e
    cases e
  · have : tags = tags' := by
      have := congrArg tagsIn e
      rw [tagsIn_strs, tagsIn_strs] at this
      exact this
    subst this
    have hp : parseD tags (.str t) = .eater F := hp
    rw [hp]
    exact k
end
end Law
end

section
set_option Elab.async false
set_option linter.all false
set_option maxRecDepth 100000
set_option maxHeartbeats 4000000
namespace Law
open PySem PySem.Spec PyProof.Rows L2 LamX QB QM QV
section
variable {P : Program} {w : World} {K : PySem.W.Frag} {mg : Str → Option Value} {base : Heap}
def spGreat (T : List (Addr × Str)) : Sp := fun vs H Q _ => ∃ (p a : Addr) (tags : Word), vs = [.ref p, .ref a] ∧ PileAt H p ∧ WordAt H a tags ∧ TagsOk tags ∧ Tabs T H ∧ ∀ H', Mx T p H H' → Q (.bl true) H'
theorem ok__law_great_right (X : TX K mg) (TB : LamX.TabB base mg X.lam_c X.lam_P) : FnOk P w K mg base CX0 8 X.d__law_great_right.a X.d__law_great_right.fd ["pile", "tags"] (spGreat (Tof X)) := by
  have nd := sc__law_great_right.nd
  refine X.d__law_great_right.F.ok sc__law_great_right (fun vs H Q E h => ?_) (fun cdv A outer s0 H vs Q E hr h => ?_)
  · obtain ⟨p, a, tags, rfl, _⟩ := h
    rfl
  · obtain ⟨p, a, tags, rfl, hp, ha, to, tb, k⟩ := h
    refine ⟨_, (pss_cons (ps_set (i := 2) nd rfl (Or.inl rfl) (pe_op op_add pe_int (pe_call (ok__law_take X) (hr.mono (by decide)) rfl X.d__law_take.mg X.d__law_take.F.kp X.d__law_take.b .nil pass0 (pa_cons (pv 0) (pa_cons pe_int pa_nil))))) (pss_cons (ps_set (i := 3) nd rfl (Or.inl rfl) (pe_lst pa_nil)) (pss_cons (ps_for PassesOwn.never rfl (pi_range1 (by rfl) X.n_range (pa_cons (pv 2) pa_nil)) (pg_name (i := 4) nd rfl (Or.inl rfl)) (pss_cons (ps_set (i := 5) nd rfl (Or.inl rfl) (pe_lst pa_nil)) (pss_cons (ps_for PassesOwn.never rfl (pi_range1 (by rfl) X.n_range (pa_cons (pe_callB (QB.call_lenK K) (by rfl) X.n_len PySem.boot_len (pa_cons (pv 1) pa_nil)) pa_nil)) (pg_name (i := 6) nd rfl (Or.inl rfl)) (pss_one (ps_expr (QB.pe_bmK K PySem.F.plainAttrs_list PySem.F.slot_list_append PySem.F.type_list_append mt_append (pv 5) (pa_cons (pe_ix (QB.ix_listK K) (pe_lst (pa_cons pe_non (pa_cons (pe_op op_mod (pe_op op_add (pe_op op_mul pe_int (pv 4)) (pv 6)) (pv 2)) pa_nil))) (pe_callTy call_int1 (by rfl) X.n_int QB.bo_int (pa_cons (pe_cmpR op_gt (pe_op op_mod (pe_op op_add (pv 4) (pv 6)) pe_int) pe_int (nomark _)) pa_nil)) (fun _ _ => rfl)) pa_nil))))) (pss_one (ps_expr (QB.pe_bmK K PySem.F.plainAttrs_list PySem.F.slot_list_append PySem.F.type_list_append mt_append (pv 3) (pa_cons (pe_tup (pa_cons (pe_op op_rep (pe_slice (QB.sl_listK K) (pv 1) po_none (po_some pe_int)) (pe_op op_mod (pv 4) pe_int)) (pa_cons (pv 5) pa_nil))) pa_nil))))))) (pss_cons (ps_set (i := 7) nd rfl (Or.inl rfl) (pe_make X.mk_Eater (ok_Eater___init__ X TB) (hr.mono (by decide)) rfl X.m_Eater X.d_Eater___init__.b .nil pass0 (pa_cons (pv 1) (pa_cons (pv 3) pa_nil)))) (pss_cons (ps_if (pt_cmpR op_ne (pe_call (ok_eater_text X) (hr.mono (by decide)) rfl X.d_eater_text.mg X.d_eater_text.F.kp X.d_eater_text.b .nil pass0 (pa_cons (pv 7) pa_nil)) (pe_call (ok__law_written X) (hr.mono (by decide)) rfl X.d__law_written.mg X.d__law_written.F.kp X.d__law_written.b .nil pass0 (pa_cons (pv 1) (pa_cons (pe_meth0 (pv 7) X.cl_Eater X.h_Eater_standings (ok_Eater_standings X) (hr.mono (by decide)) X.d_Eater_standings.b .nil pass0) pa_nil))) (nomark _)) (pss_one (ps_ret pe_bl)) pss_nil) (pss_one (ps_ret (pe_and (pe_cmpR (QO.op_eqO (ok_Eater___eq__ X) X.h_Eater___eq__ (hr.mono (by decide)) X.d_Eater___eq__.b pass0) (pe_call (ok_read_eater X TB) (hr.mono (by decide)) rfl X.d_read_eater.mg X.d_read_eater.F.kp X.d_read_eater.b .nil pass0 (pa_cons (pv 1) (pa_cons (pe_call (ok_eater_text X) (hr.mono (by decide)) rfl X.d_eater_text.mg X.d_eater_text.F.kp X.d_eater_text.b .nil pass0 (pa_cons (pv 7) pa_nil)) pa_nil))) (pv 7) (nomark _)) (pe_one (pe_cmpR (QO.op_eqO (ok_Eater___eq__ X) X.h_Eater___eq__ (hr.mono (by decide)) X.d_Eater___eq__.b pass0) (pe_call (ok_read_eater X TB) (hr.mono (by decide)) rfl X.d_read_eater.mg X.d_read_eater.F.kp X.d_read_eater.b .nil pass0 (pa_cons (pv 1) (pa_cons (pe_call (ok__law_written X) (hr.mono (by decide)) rfl X.d__law_written.mg X.d__law_written.F.kp X.d__law_written.b .nil pass0 (pa_cons (pv 1) (pa_cons (pv 3) pa_nil))) pa_nil))) (pv 7) (nomark _))))))))))), ?_⟩
    try dsimp only [Cx.nox, Cx.wish, cxOf]
    have htl := to.len
    obtain ⟨t0, tr, rfl⟩ : ∃ t0 tr, tags = t0 :: tr := by
      cases tags with
      | nil => exact absurd to.pos (by decide)
      | cons t0 tr => exact ⟨t0, tr, rfl⟩
    refine ⟨_, rfl, p, 20, rfl, by decide, by decide, hp, fun r H1 hr1 x1 p1 => ?_⟩
    have m1 : Mx (Tof X) p H H1 := .exc x1 hp p1
    have ha1 := m1.word hp ha
    show rI0 _ _ _ _ _
    refine ⟨_, _, rfl, rfl, ?_⟩
    refine ⟨by show 0 ≤ sizeLine; decide, fun D hD => ?_⟩
    show tSeq _ _ _ (List.set _ 3 _) _
    generalize hσ : List.set _ 3 _ = σ3
    have eσ : σ3 = [some (.ref p), some (.ref a), some (.int ((11 + r : Nat) : Int)), some (.ref D), none, none, none, none] := by
      rw [← hσ]
      rfl
    subst eσ
    clear hσ
    have hn : 11 + r ≤ 30 := by omega
    have hn1 : 1 ≤ 11 + r := by omega
    generalize 11 + r = n at hn hn1 ⊢
    have s1 := same_new (o := .lst ([] : List V)) hD
    have kD : (upd H1 D (.lst [])) D = some (.lst []) := upd_same
    generalize upd H1 D (.lst []) = H2 at s1 kD ⊢
    refine ⟨_, rfl, (n : Int), rfl, by omega, by omega, ?_⟩
    refine for_it (walk_range (lo := 0) (n := n)) (fun i σ H' => ∃ (v4 v5 v6 : Option V) (vs : List V) (F : Form), σ = [some (.ref p), some (.ref a), some (.int (n : Int)), some (.ref D), v4, v5, v6, none] ∧
        Same H1 H' ∧ H' D = some (.lst vs) ∧ Paired (LineAt D H') vs F ∧ F.length = i ∧ ∀ s ∈ F, StdOk (t0 :: tr) n s)
      ⟨none, none, none, [], [], rfl, s1, kD, .nil, rfl, fun _ h => nomatch h⟩ (fun _ _ _ _ _ => True.intro) ?_ ?_
    · rintro i x σ H3 H4 hi ⟨v4, v5, v6, vs, F, rfl, s3, dD, pr, fl, fo⟩ ⟨rfl, rfl⟩
      have vl : vs.length = i := by rw [paired_len pr, fl]
      refine ⟨by show 0 ≤ sizeLine; decide, fun y hy => ?_⟩
      have s5 := same_new (o := .lst ([] : List V)) hy
      have ky : (upd H4 y (.lst [])) y = some (.lst (vWs [])) := upd_same
      have yD : y ≠ D := (ne_of_none dD hy).symm
      have hy1 : H1 y = none := s3.free hy
      generalize upd H4 y (.lst []) = H5 at s5 ky ⊢
      refine ⟨_, rfl, _, _, rfl, .inl (SqL.of (s5 _ _ (s3 _ _ ha1))), ((vS (t0 :: tr)).length : Int), rfl, by rw [vS_len]; omega, by rw [vS_len]; omega, ?_⟩
      refine for_it (walk_range (lo := 0) (n := (vS (t0 :: tr)).length)) (fun j σ H' => ∃ (v6 : Option V) (ws : Ways), σ = [some (.ref p), some (.ref a), some (.int (n : Int)), some (.ref D), some (.int (0 + (i : Int))), some (.ref y), v6, none] ∧ Same H4 H' ∧
          H' y = some (.lst (vWs ws)) ∧ ws.length = j ∧ ∀ m, some m ∈ ws → m < n)
        ⟨_, [], rfl, s5, ky, rfl, fun _ h => nomatch h⟩ (fun _ _ _ _ _ => True.intro) ?_ ?_
      · rintro j x σ H6 H7 hj ⟨v6, ws, rfl, s6, ky6, wl, wn⟩ ⟨rfl, rfl⟩
        rw [vS_len] at hj
        refine ⟨_, rfl, .inl ⟨rfl, _, SqL.of ky6⟩, ?_⟩
        refine ⟨_, rfl, _, _, rfl, rfl, .inl ⟨by decide, by decide⟩, _, rfl, _, _, rfl, rfl, _, rfl, _, _, rfl, rfl, by show (0 : Int) < n; omega, ?_⟩
        obtain ⟨rm, hrm1, hrm2⟩ := nat_of_mod (i := 7 * (0 + (i : Int)) + (0 + (j : Int))) (show 0 < n by omega)
        refine ⟨by show 2 ≤ sizeLine; decide, fun u hu => ?_⟩
        generalize hH8 : upd H7 u _ = H8
        have s8 : Same H7 H8 := by
          rw [← hH8]
          exact same_new hu
        have ku : H8 u = some (.lst [V.non, V.int (rm : Int)]) := by
          rw [← hH8, ← hrm2]
          exact upd_same
        clear hH8
        have ky8 := s8 _ _ ky6
        have s48 := s6.trans s8
        refine ⟨_, rfl, _, rfl, _, _, rfl, rfl, _, _, rfl, rfl, by show (0 : Int) < 4; decide, _, _, rfl, rfl, .inr ⟨_, rfl, ?_⟩⟩
        generalize decide ((0 : Int) < _) = bb
        have hix : ∃ wy : Option Nat, atI [V.non, V.int (rm : Int)] (if bb = true then 1 else 0) = some (vW wy) ∧ ∀ m, wy = some m → m < n := by
          cases bb
          · exact ⟨none, atI_nat (j := 0) rfl, fun _ h => nomatch h⟩
          · exact ⟨some rm, atI_nat (j := 1) rfl, fun m h => by rw [← Option.some.inj h]; exact hrm1⟩
        obtain ⟨wy, hwy, hwy2⟩ := hix
        refine ⟨u, _, _, _, rfl, rfl, SqL.of ku, hwy, ?_⟩
        refine ⟨y, _, _, rfl, rfl, ky8, by rw [vWs_len]; exact sz_lt (by omega), ?_⟩
        refine ⟨_, ws ++ [wy], rfl, Same.mut s48 hy, ?_, by rw [List.length_append, wl]; rfl, fun m hm => ?_⟩
        · rw [upd_same]
          unfold vWs
          rw [List.map_append]
          rfl
        · rcases List.mem_append.mp hm with hm | hm
          · exact wn m hm
          · exact hwy2 m (List.mem_singleton.mp hm).symm
      · rintro σ H6 ⟨v6, ws, rfl, s6, ky6, wl, wn⟩
        rw [vS_len] at wl
        have s16 := s3.trans s6
        have dD6 := s6 _ _ dD
        refine ⟨_, rfl, .inl ⟨rfl, _, SqL.of dD6⟩, _, rfl, _, rfl, a, _, rfl, SqL.of (s16 _ _ ha1), fun q hq => ?_⟩
        have kq : (upd H6 q (.lst (cutV (vS (t0 :: tr)) none (some 1)))) q = some (.lst [V.str t0]) := by
          rw [upd_same, show cutV (vS (t0 :: tr)) none (some 1) = (vS (t0 :: tr)).take 1 from cut_take _ 1]
          rfl
        have sq := same_new (o := .lst (cutV (vS (t0 :: tr)) none (some 1))) hq
        generalize upd H6 q (.lst (cutV (vS (t0 :: tr)) none (some 1))) = H7 at kq sq ⊢
        obtain ⟨r3, hr3, hr4⟩ := nat_of_mod (i := 0 + (i : Int)) (m := 3) (by decide)
        refine ⟨_, rfl, _, _, rfl, rfl, by show (0 : Int) < 3; decide, ?_⟩
        refine ⟨q, (0 + (i : Int)) % (3 : Nat), _, rfl, rfl, kq, by rw [hr4]; omega, by rw [hr4]; omega, by rw [hr4]; show 1 * _ ≤ sizeLine; exact sz_le (by omega), fun q2 hq2 => ?_⟩
        generalize hH8 : upd H7 q2 _ = H8
        have s8 : Same H7 H8 := by
          rw [← hH8]
          exact same_new hq2
        have kw : WordAt H8 q2 (List.replicate r3 t0) := by
          rw [← hH8]
          unfold WordAt
          rw [upd_same, hr4, Int.toNat_natCast, pt_rep]
          unfold vS
          rw [List.map_replicate]
        clear hH8
        have s68 := sq.trans s8
        refine ⟨_, rfl, by show 2 ≤ sizeLine; decide, fun tt htt => ?_⟩
        have s9 := s68.trans (same_new (o := .tup [V.ref q2, V.ref y]) htt)
        have ktt : (upd H8 tt (.tup [V.ref q2, V.ref y])) tt = some (.tup [.ref q2, .ref y]) := upd_same
        have kw9 := Same.word (same_new (o := .tup [V.ref q2, V.ref y]) htt) kw
        generalize upd H8 tt (.tup [V.ref q2, V.ref y]) = H9 at s9 ktt kw9 ⊢
        have dD9 := s9 _ _ dD6
        have ky9 : WaysAt H9 y ws := s9 _ _ ky6
        refine ⟨D, _, _, rfl, rfl, dD9, sz_lt (by omega), ?_⟩
        have s49 := s6.trans s9
        have q2D : q2 ≠ D := (ne_of_none (sq _ _ dD6) hq2).symm
        refine ⟨_, _, _, vs ++ [.ref tt], F ++ [(List.replicate r3 t0, ws)], rfl, Same.mut (s3.trans s49) hD, upd_same, Paired.snoc (L2.Paired.mapP pr fun _ _ z => (z.same s49).upd dD9) (LineAt.upd ⟨tt, q2, y, rfl, q2D, yD, ktt, kw9, ky9⟩ dD9), by rw [List.length_append, fl]; rfl, fun s hs => ?_⟩
        rcases List.mem_append.mp hs with hs | hs
        · exact fo s hs
        · rw [List.mem_singleton.mp hs]
          refine ⟨by rw [List.length_replicate]; omega, fun t ht => ?_, wl, wn⟩
          rw [List.eq_of_mem_replicate ht]
          exact List.mem_cons_self
    · rintro σ H3 ⟨v4, v5, v6, vs, F, rfl, s3, dD, pr, fl, fo⟩
      obtain ⟨ts, e1, pF⟩ := line_form pr
      have fat : FormAt H3 D F := ⟨ts, by rw [dD, e1], pF⟩
      have foF : FormOk (t0 :: tr) F := ⟨by omega, by omega, by rw [fl]; exact fo⟩
      clear fo pr dD pF e1
      have ft := foF.text
      have lo := foF.leastOk
      have lt := lo.text
      have ag : least (t0 :: tr) (least (t0 :: tr) F) = least (t0 :: tr) F := least_again foF.good to.nd
      have wl := FormOk.wordsOk to lo
      have m3 := m1.trans (.same s3)
      have ha3 := Same.word s3 ha1
      have t3 := m3.2.1 tb
      refine ⟨_, rfl, _, rfl, fun x dx hx hd hne => ?_⟩
      have hx' : (upd H3 dx (.own x)) x = none := (upd_ne hne.symm).trans hx
      have sM : Same H3 (upd (upd H3 dx (.own x)) x (.ins X.c_Eater dx [])) := Same.new (same_new hd) hx'
      refine ⟨x, dx, a, D, t0 :: tr, F, H3, rfl, upd_same, Same.word sM ha3, Same.form sM fat, to, foF, t3.ext sM, .of sM, .of hx, fun a1 b1 M1 H4 e4 t4 n4 => ⟨rfl, ?_⟩⟩
      have he := n4.at_
      have ha4 := e4.word ha3
      have fat4 := e4.form fat
      have m4 := m3.trans (.ext e4)
      clear n4 e4 sM hx' hd hx hne
      have ll := least_len foF.good
      have l2 := eaterT_len to lt
      have l3 := eaterT_len to ft
      have l4 := lo.len
      refine ⟨_, rfl, x, t0 :: tr, least (t0 :: tr) F, rfl, he, to, lt, fun H5 s5 => ?_⟩
      have he5 := he.same s5
      obtain ⟨dx5, ea, eb, i1, i2, i3⟩ := id he5
      refine ⟨_, rfl, _, rfl, x, dx5, _, rfl, i1, rfl, ?_⟩
      refine ⟨x, t0 :: tr, _, rfl, he5, by omega, fun q L H6 s6 n6 => ?_⟩
      have s46 := s5.trans s6
      refine ⟨a, q, t0 :: tr, least (t0 :: tr) F, rfl, Same.word s46 ha4, n6.form, to, lt, fun H7 s7 => ?_⟩
      have s47 := s46.trans s7
      refine ⟨rfl, _, rfl, ?_⟩
      rw [decide_eq_true rfl]
      refine iteF ?_
      have he7 := he.same s47
      have t7 := t4.ext s47
      refine ⟨_, rfl, _, rfl, x, t0 :: tr, least (t0 :: tr) F, rfl, he7, to, lt, fun H8 s8 => ?_⟩
      have s48 := s47.trans s8
      refine ⟨a, _, t0 :: tr, least (t0 :: tr) F, rfl, Same.word s48 ha4, to, by omega, parse_back to lo, t4.ext s48, fun e1 H9 e9 t9 he1 => ?_⟩
      rw [ag] at he1
      have he9 := (he.same s48).ext e9
      have m9 := m4.trans ((Mx.same s48).trans (.ext e9))
      have ha9 := e9.word (Same.word s48 ha4)
      have fat9 := e9.form (Same.form s48 fat4)
      obtain ⟨dz, za, zb, iz, iz2⟩ := id he1
      obtain ⟨dy, ya, yb, iy, iy2⟩ := id he9
      refine ⟨_, rfl, e1, dz, _, _, rfl, iz, X.oc_Eater.ty X.cl_Eater iy, QO.OwnC.same, ?_⟩
      refine eatEq he1 he9 wl wl ?_
      rw [decide_eq_true rfl]
      refine ⟨_, rfl, ?_⟩
      refine ⟨_, rfl, iteT ?_⟩
      refine ⟨_, rfl, _, rfl, _, rfl, a, D, t0 :: tr, F, rfl, ha9, fat9, to, ft, fun H10 s10 => ?_⟩
      refine ⟨a, _, t0 :: tr, F, rfl, Same.word s10 ha9, to, by omega, parse_back to foF, t9.ext s10, fun e2 H11 e11 t11 he2 => ?_⟩
      have he11 := (he9.same s10).ext e11
      obtain ⟨dv, va, vb, iv, iv2⟩ := id he2
      obtain ⟨du, ua, ub, iu, iu2⟩ := id he11
      refine ⟨_, rfl, e2, dv, _, _, rfl, iv, X.oc_Eater.ty X.cl_Eater iu, QO.OwnC.same, ?_⟩
      refine eatEq he2 he11 wl wl ?_
      rw [decide_eq_true rfl]
      refine ⟨_, rfl, ?_⟩
      exact k _ (m9.trans ((Mx.same s10).trans (.ext e11)))
end
end Law
end

section
set_option Elab.async false
set_option linter.all false
set_option maxRecDepth 100000
set_option maxHeartbeats 4000000
namespace Law
open PySem PySem.Spec PyProof.Rows L2 LamX QB QM QV
def Plain1 (iv : V) : Prop := iv = .non ∨ ∃ i : Int, iv = .int i
theorem parse_plain {tags : Word} {dy : PyData} {iv : V} (h : parseD tags dy = .line iv) : Plain1 iv := by
  cases dy with
  | str t =>
    have h : parse tags t = .line iv := h
    unfold parse at h
    split at h
    · cases h
      exact .inr ⟨_, rfl⟩
    · split at h
      · split at h
        · cases h
        · cases h
          exact .inr ⟨_, rfl⟩
      · cases h
        exact .inr ⟨_, rfl⟩
  | _ =>
    cases h
    exact .inl rfl
/-- a text and what is none or a number, in a list -/
theorem two_data (s : Str) (iv : V) (hs : PyData.strOk s = true) (hp : Plain1 iv) : ∃ D : PyData, SeqAt.shaped D = true ∧ PyData.eqv D D = true ∧ ∀ (K : PySem.W.Frag) (H : Hp) (p : Addr), H p = some (.lst [.str s, iv]) → Dp K H (.ref p) D := by
  rcases hp with rfl | ⟨i, rfl⟩
  · refine ⟨.list [.str s, .none], ?_, ?_, fun K H p h => .lst (SqL.of h) (.cons (.str s) (.cons .non .nil))⟩
    · unfold SeqAt.shaped
      rw [PyData.canLay0, PyData.canLayAll0, PyData.canLay0, hs]
      simp [PyData.canLay0, PyData.canLayAll0, PyData.depth, PyData.depthAll]
    · simp [PyData.eqv, PyData.eqvAll]
  · refine ⟨.list [.str s, .int i], ?_, ?_, fun K H p h => .lst (SqL.of h) (.cons (.str s) (.cons (.int i) .nil))⟩
    · unfold SeqAt.shaped
      rw [PyData.canLay0, PyData.canLayAll0, PyData.canLay0, hs]
      simp [PyData.canLay0, PyData.canLayAll0, PyData.depth, PyData.depthAll]
    · simp [PyData.eqv, PyData.eqvAll]
theorem due_data {tags : Word} {dy : PyData} (to : TagsOk tags) (hz : dy.weight ≤ 8000) : ∃ D : PyData, SeqAt.shaped D = true ∧ PyData.eqv D D = true ∧ ∀ (K : PySem.W.Frag) (H : Hp) (p : Addr), DueAt H p tags dy → Dp K H (.ref p) D := by
  cases hp : parseD tags dy with
  | line iv =>
    obtain ⟨D, d1, d2, d3⟩ := two_data (Str.ofString "line") iv (by decide +kernel) (parse_plain hp)
    refine ⟨D, d1, d2, fun K H p h => d3 K H p ?_⟩
    unfold DueAt at h
    rw [hp] at h
    exact h
  | eater F =>
    have fo := parseD_ok (by omega) hp
    have wl := FormOk.wordsOk to fo.leastOk
    have en := (enc_str.mono (show 0 ≤ 3 by decide)).two enc_form
    have ok : PyData.strOk (Str.ofString "eater") = true ∧ ∀ s ∈ least tags F, OkWord s.1 ∧ ∀ x ∈ s.2, True := ⟨by decide +kernel, fun s hs => ⟨fun t ht => wl.txt t (wl.sub s hs t ht), fun _ _ => trivial⟩⟩
    refine ⟨.list [.str (Str.ofString "eater"), dForm (least tags F)], shaped_of (x := (Str.ofString "eater", least tags F)) en (by decide) ok, ?_, fun K H p h => ?_⟩
    · have := en.eq (Str.ofString "eater", least tags F) (Str.ofString "eater", least tags F)
      rw [decide_eq_true rfl] at this
      exact this
    · unfold DueAt at h
      rw [hp] at h
      obtain ⟨b, h1, h2⟩ := h
      exact .lst (SqL.of h1) (.cons (.str _) (.cons (dp_form h2) .nil))
theorem DueAt.ext {T : List (Addr × Str)} {H H' : Hp} {p : Addr} {tags : Word} {dy : PyData} (h : DueAt H p tags dy) (x : QB.Ext T H H') : DueAt H' p tags dy := by
  unfold DueAt at h ⊢
  cases hp : parseD tags dy with
  | line iv =>
    rw [hp] at h
    exact x.lst h
  | eater F =>
    rw [hp] at h
    obtain ⟨b, h1, h2⟩ := h
    exact ⟨b, x.lst h1, x.form h2⟩
/-- what is told is what is due -/
theorem told_due {K : PySem.W.Frag} {H : Hp} {p q : Addr} {tags : Word} {dy : PyData} {Q : VK} (to : TagsOk tags) (hz : dy.weight ≤ 8000) (h1 : DueAt H p tags dy) (h2 : DueAt H q tags dy) (k : Q (.bl false) H) : rNeD K (.ref p) (.ref q) H Q := by
  obtain ⟨D, d1, d2, d3⟩ := due_data to hz
  exact ⟨D, D, d3 K H p h1, d3 K H q h2, d1, d1, by rw [d2]; exact k⟩
theorem told_two {K : PySem.W.Frag} {H : Hp} {p q : Addr} {iv : V} {Q : VK} (hp : Plain1 iv) (h1 : H p = some (.lst [.str "tags", iv])) (h2 : H q = some (.lst [.str "tags", iv])) (k : Q (.bl false) H) : rNeD K (.ref p) (.ref q) H Q := by
  obtain ⟨D, d1, d2, d3⟩ := two_data (Str.ofString "tags") iv (by decide +kernel) hp
  exact ⟨D, D, d3 K H p h1, d3 K H q h2, d1, d1, by rw [d2]; exact k⟩
/-- a pair of wrong tags and what is due of them -/
def WrongAt (H : Hp) (v : V) : Prop := ∃ t x iv dv, v = .ref t ∧ H t = some (.tup [x, iv]) ∧ Dv H x dv ∧ dv.weight ≤ 8000 ∧ tagsDue dv = some iv ∧ Plain1 iv
theorem WrongAt.same {H H' : Hp} {v : V} (h : WrongAt H v) (s : Same H H') : WrongAt H' v := by
  obtain ⟨t, x, iv, dv, e, h1, h2, h3, h4, h5⟩ := h
  exact ⟨t, x, iv, dv, e, s _ _ h1, h2.same s, h3, h4, h5⟩
theorem due_second {t0 : Str} {d : PyData} (h0 : NameOk t0) (h : nameD d = false ∨ d = .str t0) : tagsDue (.list [.str t0, d]) = some (.int 1) := by
  show (if 1 ≤ 2 ∧ 2 ≤ 6 then idx (firstBad (badTag [.str t0, d]) 2) else some .non) = _
  rw [if_pos (by decide), first_at (i := 1) (by decide)]
  · rfl
  · show (!nameD d || (sameS (.str t0) d || false)) = true
    rcases h with h | h
    · rw [h]
      rfl
    · rw [h]
      show (!nameD (.str t0) || ((t0 == t0) || false)) = true
      simp
  · intro j hj
    have : j = 0 := by omega
    subst this
    show (!nameB t0 || false) = false
    rw [nameB_ok h0]
    rfl
end Law
end

section
set_option Elab.async false
set_option linter.all false
set_option maxRecDepth 100000
set_option maxHeartbeats 4000000
namespace Law
open PySem PySem.Spec PyProof.Rows L2 LamX QB QM QV
open TL
section
variable {P : Program} {w : World} {K : PySem.W.Frag} {mg : Str → Option Value} {base : Heap}
def spTagsR (T : List (Addr × Str)) : Sp := fun vs H Q _ => ∃ (p a : Addr) (tags : Word) (t : Str), vs = [.ref p, .ref a, .str t] ∧ PileAt H p ∧ WordAt H a tags ∧ TagsOk tags ∧ t.length ≤ 7000 ∧ Tabs T H ∧ ∀ H', Mx T p H H' → Q (.bl true) H'
theorem ok__law_tags_right (X : TX K mg) (TB : LamX.TabB base mg X.lam_c X.lam_P) : FnOk P w K mg base CX0 9 X.d__law_tags_right.a X.d__law_tags_right.fd ["pile", "tags", "text"] (spTagsR (Tof X)) := by
  have nd := sc__law_tags_right.nd
  refine X.d__law_tags_right.F.ok sc__law_tags_right (fun vs H Q E h => ?_) (fun cdv A outer s0 H vs Q E hr h => ?_)
  · obtain ⟨p, a, tags, t, rfl, _⟩ := h
    rfl
  · obtain ⟨p, a, tags, t, rfl, hp, ha, to, hz, tb, k⟩ := h
    refine ⟨_, (pss_cons (ps_for PassesOwn.never rfl (QB.pi_listK K (pe_lst (pa_cons (pe_tup (pa_cons (pe_lst pa_nil) (pa_cons pe_non pa_nil))) (pa_cons (pe_tup (pa_cons pe_non (pa_cons pe_non pa_nil))) (pa_cons (pe_tup (pa_cons (pe_callTy (QB.call_tupleK K) (by rfl) X.n_tuple QB.bo_tuple (pa_cons (pv 1) pa_nil)) (pa_cons pe_non pa_nil))) (pa_cons (pe_tup (pa_cons (pe_op op_rep (pe_slice (QB.sl_listK K) (pv 1) po_none (po_some pe_int)) pe_int) (pa_cons pe_int pa_nil))) (pa_cons (pe_tup (pa_cons (pe_op op_cat (pe_slice (QB.sl_listK K) (pv 1) po_none (po_some pe_int)) (pe_lst (pa_cons pe_str pa_nil))) (pa_cons pe_int pa_nil))) pa_nil))))))) (pg_tup (by rfl) (pgs_cons (pg_name (i := 3) nd rfl (Or.inl rfl)) (pgs_cons (pg_name (i := 4) nd rfl (Or.inl rfl)) (pgs_nil)))) (pss_one (ps_for PassesOwn.never rfl (QB.pi_listK K (pe_lst (pa_cons (pv 2) (pa_cons pe_str (pa_cons (pe_op op_add_str (pe_op op_add_str pe_str (pe_ix (QB.ix_listK K) (pv 1) pe_int (fun _ _ => rfl))) pe_str) (pa_cons pe_non pa_nil)))))) (pg_name (i := 5) nd rfl (Or.inl rfl)) (pss_one (ps_if (pt_cmpR (QB.op_neDK K hr.units) (pe_call (ok__law_told X TB) (hr.mono (by decide)) rfl X.d__law_told.mg X.d__law_told.F.kp X.d__law_told.b .nil pass0 (pa_cons (pv 3) (pa_cons (pv 5) pa_nil))) (pe_lst (pa_cons pe_str (pa_cons (pv 4) pa_nil))) (nomark _)) (pss_one (ps_ret pe_bl)) pss_nil))))) (pss_cons (ps_if (pt_cmpR (QB.op_neDK K hr.units) (pe_call (ok__law_told X TB) (hr.mono (by decide)) rfl X.d__law_told.mg X.d__law_told.F.kp X.d__law_told.b .nil pass0 (pa_cons (pe_slice (QB.sl_listK K) (pe_op op_cat (pv 1) (pe_op op_rep (pe_lst (pa_cons pe_str pa_nil)) pe_int)) po_none (po_some pe_int)) (pa_cons (pv 2) pa_nil))) (pe_lst (pa_cons pe_str (pa_cons pe_non pa_nil))) (nomark _)) (pss_one (ps_ret pe_bl)) pss_nil) (pss_cons (ps_set (i := 6) nd rfl (Or.inl rfl) (pe_op op_rep (pe_lst (pa_cons pe_str pa_nil)) (pe_op op_add pe_int (pe_call (ok__law_take X) (hr.mono (by decide)) rfl X.d__law_take.mg X.d__law_take.F.kp X.d__law_take.b .nil pass0 (pa_cons (pv 0) (pa_cons pe_int pa_nil)))))) (pss_cons (ps_set (i := 7) nd rfl (Or.inl rfl) (pe_call (ok__law_take X) (hr.mono (by decide)) rfl X.d__law_take.mg X.d__law_take.F.kp X.d__law_take.b .nil pass0 (pa_cons (pv 0) (pa_cons (pe_callB (QB.call_lenK K) (by rfl) X.n_len PySem.boot_len (pa_cons (pv 6) pa_nil)) pa_nil)))) (pss_cons (ps_set (i := 8) nd rfl (Or.inl rfl) (pe_lst (pa_cons pe_str (pa_cons pe_str (pa_cons pe_str (pa_cons pe_str pa_nil)))))) (pss_cons (ps_for PassesOwn.never rfl (QB.pi_listK K (pe_lst (pa_cons pe_str (pa_cons pe_str (pa_cons pe_str (pa_cons pe_str (pa_cons pe_str (pa_cons pe_str (pa_cons pe_str (pa_cons pe_str pa_nil)))))))))) (pg_name (i := 9) nd rfl (Or.inl rfl)) (pss_one (ps_expr (QB.pe_bmK K PySem.F.plainAttrs_list PySem.F.slot_list_append PySem.F.type_list_append mt_append (pv 8) (pa_cons (pe_op op_add_str (pe_op op_add_str (pe_op op_add_str pe_str (pe_ix (QB.ix_listK K) (pv 1) pe_int (fun _ _ => rfl))) pe_str) (pv 9)) pa_nil))))) (pss_cons (ps_for PassesOwn.never rfl (QB.pi_listK K (pv 8)) (pg_name (i := 10) nd rfl (Or.inl rfl)) (pss_cons (ps_set (i := 5) nd rfl (Or.inl rfl) (pe_join pe_str (pe_op op_cat (pe_op op_cat (pe_slice (QB.sl_listK K) (pv 6) po_none (po_some (pv 7))) (pe_lst (pa_cons (pv 10) pa_nil))) (pe_slice (QB.sl_listK K) (pv 6) (po_some (pe_op op_add (pv 7) pe_int)) po_none)))) (pss_one (ps_if (pt_cmpR (QB.op_neDK K hr.units) (pe_call (ok__law_told X TB) (hr.mono (by decide)) rfl X.d__law_told.mg X.d__law_told.F.kp X.d__law_told.b .nil pass0 (pa_cons (pv 1) (pa_cons (pv 5) pa_nil))) (pe_call (ok__law_due X TB) (hr.mono (by decide)) rfl X.d__law_due.mg X.d__law_due.F.kp X.d__law_due.b .nil pass0 (pa_cons (pv 1) (pa_cons (pv 5) pa_nil))) (nomark _)) (pss_one (ps_ret pe_bl)) pss_nil)))) (pss_one (ps_ret pe_bl))))))))), ?_⟩
    try dsimp only [Cx.nox, Cx.wish, cxOf]
    have htl := to.len
    obtain ⟨t0, tr, rfl⟩ : ∃ t0 tr, tags = t0 :: tr := by
      cases tags with
      | nil => exact absurd to.pos (by decide)
      | cons t0 tr => exact ⟨t0, tr, rfl⟩
    have n0 := to.names t0 List.mem_cons_self
    have at0 : atI (vS (t0 :: tr)) 0 = some (.str t0) := atI_nat (j := 0) rfl
    have take1 : cutV (vS (t0 :: tr)) none (some 1) = [V.str t0] := cut_take _ 1
    -- [], None
    refine ⟨by show 0 ≤ sizeLine; decide, fun l1 h1 => ?_⟩
    have s1 := same_new (o := .lst ([] : List V)) h1
    have k1 : (upd H l1 (.lst [])) l1 = some (.lst []) := upd_same
    generalize upd H l1 (.lst []) = H1 at s1 k1 ⊢
    refine ⟨by show 2 ≤ sizeLine; decide, fun t1 h2 => ?_⟩
    have s2 := same_new (o := .tup [V.ref l1, V.non]) h2
    have w1 : WrongAt (upd H1 t1 (.tup [V.ref l1, V.non])) (.ref t1) := ⟨t1, _, _, .list [], rfl, upd_same, .lst (s2 _ _ k1) .nil, by rw [w_list, PyData.weightAll]; decide, rfl, .inl rfl⟩
    have s12 := s1.trans s2
    generalize upd H1 t1 (.tup [V.ref l1, V.non]) = H2 at w1 s12 ⊢
    -- None, None
    refine ⟨by show 2 ≤ sizeLine; decide, fun t2 h3 => ?_⟩
    have s3 := same_new (o := .tup [V.non, V.non]) h3
    have w2 : WrongAt (upd H2 t2 (.tup [V.non, V.non])) (.ref t2) := ⟨t2, _, _, .none, rfl, upd_same, .non, by rw [PyData.weight]; decide, rfl, .inl rfl⟩
    have w1 := w1.same s3
    have s13 := s12.trans s3
    generalize upd H2 t2 (.tup [V.non, V.non]) = H3 at w1 w2 s13 ⊢
    -- tuple(tags), None
    refine ⟨_, rfl, a, _, rfl, .inl ⟨SqL.of (Same.word s13 ha), fun l3 h4 => ?_⟩⟩
    have s4 := same_new (o := .tup (vS (t0 :: tr))) h4
    have k4 : (upd H3 l3 (.tup (vS (t0 :: tr)))) l3 = some (.tup (vS (t0 :: tr))) := upd_same
    have s14 := s13.trans s4
    have w1 := w1.same s4
    have w2 := w2.same s4
    generalize upd H3 l3 (.tup (vS (t0 :: tr))) = H4 at w1 w2 k4 s14 ⊢
    refine ⟨by show 2 ≤ sizeLine; decide, fun t3 h5 => ?_⟩
    have s5 := same_new (o := .tup [V.ref l3, V.non]) h5
    have w3 : WrongAt (upd H4 t3 (.tup [V.ref l3, V.non])) (.ref t3) := ⟨t3, _, _, .tuple ((t0 :: tr).map .str), rfl, upd_same, .tup (s5 _ _ k4) (word_dv _), by
      rw [w_tuple]
      have := words_weight (wd := t0 :: tr) fun t ht => (to.names t ht).len
      omega, rfl, .inl rfl⟩
    have s15 := s14.trans s5
    have w1 := w1.same s5
    have w2 := w2.same s5
    generalize upd H4 t3 (.tup [V.ref l3, V.non]) = H5 at w1 w2 w3 s15 ⊢
    -- tags[:1] * 2, 1
    refine ⟨_, rfl, _, rfl, a, _, rfl, SqL.of (Same.word s15 ha), fun l4 h6 => ?_⟩
    rw [take1]
    have s6 := same_new (o := .lst [V.str t0]) h6
    have k6 : (upd H5 l4 (.lst [V.str t0])) l4 = some (.lst [V.str t0]) := upd_same
    have s16 := s15.trans s6
    have w1 := w1.same s6
    have w2 := w2.same s6
    have w3 := w3.same s6
    generalize upd H5 l4 (.lst [V.str t0]) = H6 at w1 w2 w3 k6 s16 ⊢
    refine ⟨l4, 2, _, rfl, rfl, k6, by decide, by decide, by show 1 * 2 ≤ sizeLine; decide, fun l5 h7 => ?_⟩
    generalize hH7 : upd H6 l5 _ = H7
    have s7 : Same H6 H7 := by
      rw [← hH7]
      exact same_new h7
    have k7 : H7 l5 = some (.lst [V.str t0, V.str t0]) := by
      rw [← hH7]
      exact upd_same
    clear hH7
    have s17 := s16.trans s7
    have w1 := w1.same s7
    have w2 := w2.same s7
    have w3 := w3.same s7
    refine ⟨by show 2 ≤ sizeLine; decide, fun t4 h8 => ?_⟩
    have s8 := same_new (o := .tup [V.ref l5, V.int 1]) h8
    have w4 : WrongAt (upd H7 t4 (.tup [V.ref l5, V.int 1])) (.ref t4) := ⟨t4, _, _, .list [.str t0, .str t0], rfl, upd_same, .lst (s8 _ _ k7) (.cons (.str _) (.cons (.str _) .nil)), by
      rw [w_list]
      have := words_weight (wd := [t0, t0]) fun t ht => by
        have : t = t0 := by simpa using ht
        rw [this]
        exact n0.len
      have e : PyData.weightAll [.str t0, .str t0] ≤ 9 * 2 := this
      omega, due_second n0 (.inr rfl), .inr ⟨1, rfl⟩⟩
    have s18 := s17.trans s8
    have w1 := w1.same s8
    have w2 := w2.same s8
    have w3 := w3.same s8
    generalize upd H7 t4 (.tup [V.ref l5, V.int 1]) = H8 at w1 w2 w3 w4 s18 ⊢
    -- tags[:1] + ['a b'], 1
    refine ⟨_, rfl, _, rfl, a, _, rfl, SqL.of (Same.word s18 ha), fun l6 h9 => ?_⟩
    rw [take1]
    have s9 := same_new (o := .lst [V.str t0]) h9
    have k9 : (upd H8 l6 (.lst [V.str t0])) l6 = some (.lst [V.str t0]) := upd_same
    have s19 := s18.trans s9
    have w1 := w1.same s9
    have w2 := w2.same s9
    have w3 := w3.same s9
    have w4 := w4.same s9
    generalize upd H8 l6 (.lst [V.str t0]) = H9 at w1 w2 w3 w4 k9 s19 ⊢
    refine ⟨by show 1 ≤ sizeLine; decide, fun l7 h10 => ?_⟩
    have s10 := same_new (o := .lst [V.str (Str.ofString "a b")]) h10
    have k10 : (upd H9 l7 (.lst [V.str (Str.ofString "a b")])) l7 = some (.lst [V.str (Str.ofString "a b")]) := upd_same
    have s110 := s19.trans s10
    have w1 := w1.same s10
    have w2 := w2.same s10
    have w3 := w3.same s10
    have w4 := w4.same s10
    have k9 := s10 _ _ k9
    generalize upd H9 l7 (.lst [V.str (Str.ofString "a b")]) = H10 at w1 w2 w3 w4 k9 k10 s110 ⊢
    refine ⟨l6, l7, _, _, rfl, rfl, k9, k10, by show 2 ≤ sizeLine; decide, fun l8 h11 => ?_⟩
    have s11 := same_new (o := .lst ([V.str t0] ++ [V.str (Str.ofString "a b")])) h11
    have k11 : (upd H10 l8 (.lst ([V.str t0] ++ [V.str (Str.ofString "a b")]))) l8 = some (.lst [V.str t0, V.str (Str.ofString "a b")]) := upd_same
    have s111 := s110.trans s11
    have w1 := w1.same s11
    have w2 := w2.same s11
    have w3 := w3.same s11
    have w4 := w4.same s11
    generalize upd H10 l8 (.lst ([V.str t0] ++ [V.str (Str.ofString "a b")])) = H11 at w1 w2 w3 w4 k11 s111 ⊢
    refine ⟨by show 2 ≤ sizeLine; decide, fun t5 h12 => ?_⟩
    have s12' := same_new (o := .tup [V.ref l8, V.int 1]) h12
    have w5 : WrongAt (upd H11 t5 (.tup [V.ref l8, V.int 1])) (.ref t5) := ⟨t5, _, _, .list [.str t0, .str (Str.ofString "a b")], rfl, upd_same, .lst (s12' _ _ k11) (.cons (.str _) (.cons (.str _) .nil)), by
      rw [w_list]
      have := words_weight (wd := [t0, Str.ofString "a b"]) fun t ht => by
        rcases (by simpa using ht : t = t0 ∨ t = Str.ofString "a b") with rfl | rfl
        · exact n0.len
        · decide
      have e : PyData.weightAll [.str t0, .str (Str.ofString "a b")] ≤ 9 * 2 := this
      omega, due_second n0 (.inl (by decide +kernel)), .inr ⟨1, rfl⟩⟩
    have s112 := s111.trans s12'
    have w1 := w1.same s12'
    have w2 := w2.same s12'
    have w3 := w3.same s12'
    have w4 := w4.same s12'
    generalize upd H11 t5 (.tup [V.ref l8, V.int 1]) = H12 at w1 w2 w3 w4 w5 s112 ⊢
    refine ⟨by show 5 ≤ sizeLine; decide, fun D hD => ?_⟩
    have sD := same_new (o := .lst [V.ref t1, V.ref t2, V.ref t3, V.ref t4, V.ref t5]) hD
    have kD : (upd H12 D (.lst [V.ref t1, V.ref t2, V.ref t3, V.ref t4, V.ref t5])) D = some (.lst [V.ref t1, V.ref t2, V.ref t3, V.ref t4, V.ref t5]) := upd_same
    have hw : ∀ v ∈ [V.ref t1, V.ref t2, V.ref t3, V.ref t4, V.ref t5], WrongAt (upd H12 D (.lst [V.ref t1, V.ref t2, V.ref t3, V.ref t4, V.ref t5])) v := fun v hv => by
      rcases (by simpa using hv : v = .ref t1 ∨ v = .ref t2 ∨ v = .ref t3 ∨ v = .ref t4 ∨ v = .ref t5) with rfl | rfl | rfl | rfl | rfl
      · exact w1.same sD
      · exact w2.same sD
      · exact w3.same sD
      · exact w4.same sD
      · exact w5.same sD
    have sA := s112.trans sD
    generalize upd H12 D (.lst [V.ref t1, V.ref t2, V.ref t3, V.ref t4, V.ref t5]) = HA at kD hw sA ⊢
    clear w1 w2 w3 w4 w5 s1 s2 s3 s4 s5 s6 s7 s8 s9 s10 s11 s12' s12 s13 s14 s15 s16 s17 s18 s19 s110 s111 s112 k1 k4 k6 k7 k9 k10 k11 sD
    generalize [V.ref t1, V.ref t2, V.ref t3, V.ref t4, V.ref t5] = xs at kD hw
    refine ⟨D, rfl, ⟨_, SqL.of kD⟩, ?_⟩
    have txt : ∀ {v : V}, (v = .str t ∨ v = .str (Str.ofString "x") ∨ v = .str (Str.ofString "-: " ++ t0 ++ Str.ofString "=30") ∨ v = .non) → ∃ dy, (∀ H, Dv H v dy) ∧ dy.weight ≤ 8000 := fun {v} hv => by
      have l0 := n0.len
      rcases hv with rfl | rfl | rfl | rfl
      · exact ⟨.str t, fun H => .str t, by rw [w_str]; omega⟩
      · exact ⟨.str _, fun H => .str _, by rw [w_str]; decide⟩
      · exact ⟨.str _, fun H => .str _, by rw [w_str, lenZ_add, lenZ_add]; show 3 + t0.length + 3 ≤ 8000; omega⟩
      · exact ⟨.none, fun H => .non, by rw [PyData.weight]; decide⟩
    refine for_it (walk_list (K := K) (a := D) (xs := xs)) (fun i σ H' => ∃ v3 v4 v5 : Option V, σ = [some (.ref p), some (.ref a), some (.str t), v3, v4, v5, none, none, none, none, none] ∧ QB.Ext (Tof X) HA H')
      ⟨none, none, none, rfl, .refl⟩ (fun i σ H' _ ⟨_, _, _, _, x⟩ => x.sqL (SqL.of kD)) ?_ ?_
    · rintro i x σ H1 H2 hi ⟨v3, v4, v5, rfl, e1⟩ ⟨rfl, hx⟩
      have e01 := (QB.Ext.of (T := Tof X) sA).trans e1
      obtain ⟨tt, wx, iv, dv, rfl, q1, q2, q3, q4, q5⟩ := hw _ (List.mem_of_getElem? hx)
      refine ⟨tt, _, rfl, SqT.of (e1.tup q1), rfl, _, _, rfl, _, _, rfl, rfl, ?_⟩
      have l0 := n0.len
      refine ⟨_, rfl, _, rfl, a, _, 0, .str t0, rfl, rfl, SqL.of (e01.word ha), at0, _, _, rfl, rfl, by show 3 + t0.length ≤ _; exact sz100 (by omega), _, _, rfl, rfl, by rw [lenZ_add]; show 3 + t0.length + 3 ≤ _; exact sz100 (by omega), ?_⟩
      refine ⟨by show 4 ≤ sizeLine; decide, fun D2 hD2 => ?_⟩
      have k2 : (upd H2 D2 (.lst [V.str t, V.str (Str.ofString "x"), V.str (Str.ofString "-: " ++ t0 ++ Str.ofString "=30"), V.non])) D2 = some (.lst [V.str t, V.str (Str.ofString "x"), V.str (Str.ofString "-: " ++ t0 ++ Str.ofString "=30"), V.non]) := upd_same
      have e2 := e1.trans (.of (same_new (o := .lst [V.str t, V.str (Str.ofString "x"), V.str (Str.ofString "-: " ++ t0 ++ Str.ofString "=30"), V.non]) hD2))
      generalize upd H2 D2 (.lst [V.str t, V.str (Str.ofString "x"), V.str (Str.ofString "-: " ++ t0 ++ Str.ofString "=30"), V.non]) = H3 at k2 e2 ⊢
      refine ⟨D2, rfl, ⟨_, SqL.of k2⟩, ?_⟩
      refine for_it (walk_list (K := K) (a := D2) (xs := [V.str t, V.str (Str.ofString "x"), V.str (Str.ofString "-: " ++ t0 ++ Str.ofString "=30"), V.non])) (fun j σ H' => ∃ v5 : Option V, σ = [some (.ref p), some (.ref a), some (.str t), some wx, some iv, v5, none, none, none, none, none] ∧ QB.Ext (Tof X) H3 H')
        ⟨_, rfl, .refl⟩ (fun j σ H' _ ⟨_, _, x⟩ => x.sqL (SqL.of k2)) ?_ ?_
      · rintro j x σ H4 H5 hj ⟨v5', rfl, e4⟩ ⟨rfl, hx2⟩
        obtain ⟨dy, y1, y2⟩ := txt (v := x) (by
          rcases (by simpa using List.mem_of_getElem? hx2 : x = .str t ∨ x = .str (Str.ofString "x") ∨ x = .str (Str.ofString "-: " ++ t0 ++ Str.ofString "=30") ∨ x = .non) with h | h | h | h
          · exact .inl h
          · exact .inr (.inl h)
          · exact .inr (.inr (.inl h))
          · exact .inr (.inr (.inr h)))
        have e24 := e2.trans e4
        have t4 := ((QB.Ext.of (T := Tof X) sA).trans e24).2 tb
        refine ⟨_, rfl, _, rfl, wx, x, dv, dy, rfl, q2.ext e24, y1 _, q3, y2, t4, fun p1 H6 e6 t6 rd => ?_⟩
        unfold RdAt at rd
        rw [q4] at rd
        have rd : H6 p1 = some (.lst [.str "tags", iv]) := rd
        refine ⟨_, rfl, by show 2 ≤ sizeLine; decide, fun p2 hp2 => ?_⟩
        have s6 := same_new (o := .lst [V.str "tags", iv]) hp2
        refine told_two q5 (s6 _ _ rd) upd_same ?_
        refine ⟨_, rfl, iteF ?_⟩
        exact ⟨_, rfl, e4.trans (e6.trans (.of s6))⟩
      · rintro σ H4 ⟨v5', rfl, e4⟩
        exact ⟨_, _, _, rfl, e2.trans e4⟩
    · rintro σ H1 ⟨v3, v4, v5, rfl, e1⟩
      have e01 := (QB.Ext.of (T := Tof X) sA).trans e1
      have t1' := e01.2 tb
      clear hw kD txt
      -- (tags + [''] * 6)[:7]
      refine ⟨_, rfl, by show 1 ≤ sizeLine; decide, fun q1 h1 => ?_⟩
      have s2 := same_new (o := .lst [V.str (Str.ofString "")]) h1
      have k2 : (upd H1 q1 (.lst [V.str (Str.ofString "")])) q1 = some (.lst [V.str (Str.ofString "")]) := upd_same
      have e02 := e01.trans (.of s2)
      generalize upd H1 q1 (.lst [V.str (Str.ofString "")]) = H2 at k2 e02 ⊢
      refine ⟨q1, 6, _, rfl, rfl, k2, by decide, by decide, by show 1 * 6 ≤ sizeLine; decide, fun q2 h2 => ?_⟩
      generalize hH3 : upd H2 q2 _ = H3
      have e03 : QB.Ext (Tof X) H H3 := e02.trans (by rw [← hH3]; exact .of (same_new h2))
      have k3 : H3 q2 = some (.lst (vS (List.replicate 6 (Str.ofString "")))) := by
        rw [← hH3]
        exact upd_same
      clear hH3
      refine ⟨a, q2, _, _, rfl, rfl, e03.word ha, k3, by rw [vS_len, vS_len, List.length_replicate]; exact sz100 (by omega), fun q3 h3 => ?_⟩
      have k4 : WordAt (upd H3 q3 (.lst (vS (t0 :: tr) ++ vS (List.replicate 6 (Str.ofString ""))))) q3 (t0 :: tr ++ List.replicate 6 (Str.ofString "")) := new_cat _ _
      have e04 := e03.trans (.of (same_new (o := .lst (vS (t0 :: tr) ++ vS (List.replicate 6 (Str.ofString "")))) h3))
      generalize upd H3 q3 (.lst (vS (t0 :: tr) ++ vS (List.replicate 6 (Str.ofString "")))) = H4 at k4 e04 ⊢
      refine ⟨_, rfl, q3, _, rfl, SqL.of k4, fun q4 h4 => ?_⟩
      have k5 : WordAt (upd H4 q4 (.lst (cutV (vS (t0 :: tr ++ List.replicate 6 (Str.ofString ""))) none (some ((7 : Nat) : Int))))) q4 ((t0 :: tr ++ List.replicate 6 (Str.ofString "")).take 7) := new_cutL _ 7
      generalize hH5 : upd H4 q4 _ = H5
      have e05 : QB.Ext (Tof X) H H5 := e04.trans (by rw [← hH5]; exact .of (same_new h4))
      have k5 : WordAt H5 q4 ((t0 :: tr ++ List.replicate 6 (Str.ofString "")).take 7) := by
        rw [← hH5]
        exact k5
      clear hH5
      have len7 : ((t0 :: tr ++ List.replicate 6 (Str.ofString "")).take 7).length = 7 := by
        rw [List.length_take, List.length_append, List.length_cons, List.length_replicate]
        omega
      have small : ∀ u ∈ (t0 :: tr ++ List.replicate 6 (Str.ofString "")).take 7, u.length ≤ 8 := fun u hu => by
        rcases List.mem_append.mp (List.mem_of_mem_take hu) with hu | hu
        · exact (to.names u hu).len
        · rw [List.eq_of_mem_replicate hu]
          decide
      generalize (t0 :: tr ++ List.replicate 6 (Str.ofString "")).take 7 = seven at k5 len7 small
      have due7 : tagsDue (.list (seven.map .str)) = some V.non := by
        show (if 1 ≤ (seven.map PyData.str).length ∧ (seven.map PyData.str).length ≤ 6 then idx (firstBad (badTag (seven.map PyData.str)) (seven.map PyData.str).length) else some V.non) = _
        rw [List.length_map, len7, if_neg (by decide)]
      refine ⟨_, rfl, V.ref q4, V.str t, .list (seven.map .str), .str t, rfl, tags_dv k5, .str t, ?_, by rw [w_str]; omega, e05.2 tb, fun p1 H6 e6 t6 rd => ?_⟩
      · rw [w_list]
        have := words_weight small
        omega
      unfold RdAt at rd
      rw [due7] at rd
      have rd : H6 p1 = some (.lst [V.str "tags", V.non]) := rd
      refine ⟨by show 2 ≤ sizeLine; decide, fun p2 hp2 => ?_⟩
      have s6 := same_new (o := .lst [V.str "tags", V.non]) hp2
      refine told_two (iv := V.non) (.inl rfl) (s6 _ _ rd) upd_same ?_
      refine ⟨_, rfl, iteF ?_⟩
      have e07 := e05.trans (e6.trans (.of s6))
      have m7 : Mx (Tof X) p H (upd H6 p2 (.lst [V.str "tags", V.non])) := .ext e07
      generalize upd H6 p2 (.lst [V.str "tags", V.non]) = H7 at m7 ⊢
      clear e07 s6 hp2 rd t6 e6 due7 small len7 k5 e05 h4 k4 e04 h3 k3 e03 h2 k2 e02 s2 h1 t1' e01 e1 sA
      have p7 := m7.2.2 hp
      -- the lines
      refine ⟨by show 1 ≤ sizeLine; decide, fun q1 h1 => ?_⟩
      have s8 := same_new (o := .lst [V.str (Str.ofString "-:")]) h1
      have k8 : (upd H7 q1 (.lst [V.str (Str.ofString "-:")])) q1 = some (.lst [V.str (Str.ofString "-:")]) := upd_same
      have m8 := m7.trans (.same s8)
      have p8 := m8.2.2 hp
      have qp := p7.ne h1
      generalize upd H7 q1 (.lst [V.str (Str.ofString "-:")]) = H8 at k8 m8 p8 ⊢
      refine ⟨_, rfl, p, 4, rfl, by decide, by decide, p8, fun r H9 hr9 x9 p9 => ?_⟩
      have m9 := m8.trans (.exc x9 p8 p9)
      have k9 := x9 q1 _ (by simpa using qp.symm) k8
      refine ⟨_, _, rfl, rfl, ?_⟩
      refine ⟨q1, ((29 + r : Nat) : Int), _, rfl, rfl, k9, by omega, by omega, by show 1 * (29 + r) ≤ sizeLine; exact sz100 (by omega), fun q2 h2 => ?_⟩
      generalize hH10 : upd H9 q2 _ = H10
      have s10 : Same H9 H10 := by
        rw [← hH10]
        exact same_new h2
      have kl : WordAt H10 q2 (List.replicate (29 + r) (Str.ofString "-:")) := by
        rw [← hH10]
        unfold WordAt vS
        rw [upd_same, Int.toNat_natCast, pt_rep, List.map_replicate]
      have q2p := p9.ne h2
      clear hH10
      have m10 := m9.trans (.same s10)
      have p10 := m10.2.2 hp
      have ll : (List.replicate (29 + r) (Str.ofString "-:")).length ≤ 32 := by rw [List.length_replicate]; omega
      have lp : 29 ≤ (List.replicate (29 + r) (Str.ofString "-:")).length := by rw [List.length_replicate]; omega
      have ls : ∀ u ∈ List.replicate (29 + r) (Str.ofString "-:"), u.length ≤ 20 := fun u hu => by
        rw [List.eq_of_mem_replicate hu]
        decide
      show tSeq _ _ _ (List.set _ 6 _) _
      generalize hσ : List.set _ 6 _ = σ6
      have eσ : σ6 = [some (.ref p), some (.ref a), some (.str t), v3, v4, v5, some (.ref q2), none, none, none, none] := by
        rw [← hσ]
        rfl
      subst eσ
      clear hσ
      generalize List.replicate (29 + r) (Str.ofString "-:") = lns at kl ll lp ls
      refine ⟨_, rfl, _, rfl, _, _, rfl, .inl (SqL.of kl), ?_⟩
      refine ⟨p, (vS lns).length, rfl, by rw [vS_len]; omega, by rw [vS_len]; omega, p10, fun at_ H11 hat x11 p11 => ?_⟩
      have m11 := m10.trans (.exc x11 p10 p11)
      have kl := x11 q2 _ (by simpa using q2p.symm) kl
      have ha11 := m11.word hp ha
      have t11 := m11.2.1 tb
      clear m10 m9 m8 m7 s10 s8 k8 k9 x9 x11 p7 p8 p9 p10 qp q2p h1 h2
      -- the odd ones
      refine ⟨by show 4 ≤ sizeLine; decide, fun D3 h3 => ?_⟩
      have s12 := same_new (o := .lst [V.str (Str.ofString "x:"), V.str (Str.ofString "-"), V.str (Str.ofString ""), V.str (Str.ofString "-:")]) h3
      have k12 : (upd H11 D3 (.lst [V.str (Str.ofString "x:"), V.str (Str.ofString "-"), V.str (Str.ofString ""), V.str (Str.ofString "-:")])) D3 = some (.lst (([Str.ofString "x:", Str.ofString "-", Str.ofString "", Str.ofString "-:"] : List Str).map V.str)) := upd_same
      generalize upd H11 D3 (.lst [V.str (Str.ofString "x:"), V.str (Str.ofString "-"), V.str (Str.ofString ""), V.str (Str.ofString "-:")]) = H12 at s12 k12 ⊢
      refine ⟨by show 8 ≤ sizeLine; decide, fun D4 h4 => ?_⟩
      let sgs : List Str := [Str.ofString "01", Str.ofString "30", Str.ofString "+0", Str.ofString "1_0", Str.ofString "", Str.ofString " 1", Str.ofString "1 ", Str.ofString "1.0"]
      generalize hH13 : upd H12 D4 _ = H13
      have s13 : Same H12 H13 := by
        rw [← hH13]
        exact same_new h4
      have k13 : WordAt H13 D4 sgs := by
        rw [← hH13]
        exact upd_same
      have D43 : D4 ≠ D3 := (ne_of_none k12 h4).symm
      have k12 := s13 _ _ k12
      have s13 := s12.trans s13
      have hsg : ∀ u ∈ sgs, u.length ≤ 3 := by decide +kernel
      have sl : sgs.length = 8 := rfl
      clear hH13
      clear_value sgs
      have l0 := n0.len
      refine ⟨D4, rfl, ⟨_, SqL.of k13⟩, ?_⟩
      refine for_it (walk_listW (K := K) (a := D4) (w := sgs)) (fun j σ H' => ∃ (v9 : Option V) (ods : List Str), σ = [some (.ref p), some (.ref a), some (.str t), v3, v4, v5, some (.ref q2), some (.int (at_ : Int)), some (.ref D3), v9, none] ∧ Same H11 H' ∧ WordAt H' D4 sgs ∧
          H' D3 = some (.lst (vS ods)) ∧ (∀ u ∈ ods, u.length ≤ 20) ∧ ods.length = 4 + j)
        ⟨_, [Str.ofString "x:", Str.ofString "-", Str.ofString "", Str.ofString "-:"], rfl, s13, k13, k12, by decide +kernel, rfl⟩ (fun j σ H' _ ⟨_, _, _, _, z, _⟩ => z) ?_ ?_
      · rintro j x σ H14 H15 hj ⟨v9, ods, rfl, s14, k14, d14, hod, ol⟩ ⟨y, hy, rfl, rfl⟩
        have yl := hsg y (List.mem_of_getElem? hy)
        refine ⟨_, rfl, .inl ⟨rfl, _, SqL.of d14⟩, ?_⟩
        refine ⟨_, rfl, a, _, 0, .str t0, rfl, rfl, SqL.of (Same.word s14 ha11), at0, _, _, rfl, rfl, by show 3 + t0.length ≤ _; exact sz100 (by omega), _, _, rfl, rfl, by rw [lenZ_add]; show 3 + t0.length + 1 ≤ _; exact sz100 (by omega), _, rfl, _, _, rfl, rfl, by rw [lenZ_add, lenZ_add]; show 3 + t0.length + 1 + _ ≤ _; exact sz100 (by omega), ?_⟩
        refine ⟨D3, _, _, rfl, rfl, d14, by rw [vS_len]; exact sz_lt (by omega), ?_⟩
        refine ⟨_, ods ++ [Str.ofString "-: " ++ t0 ++ Str.ofString "=" ++ y], rfl, Same.mut s14 h3, (upd_ne D43).trans k14, ?_, fun u hu => ?_, by rw [List.length_append, ol]; rfl⟩
        · rw [upd_same]
          unfold vS
          rw [List.map_append]
          rfl
        · rcases List.mem_append.mp hu with hu | hu
          · exact hod u hu
          · rw [List.mem_singleton.mp hu, lenZ_add, lenZ_add, lenZ_add]
            show 3 + t0.length + 1 + _ ≤ 20
            omega
      · rintro σ H14 ⟨v9, ods, rfl, s14, k14, d14, hod, ol⟩
        clear k14 k13 s13 k12 D43 h4 s12 hsg sl
        have kl14 := Same.word s14 kl
        have ha14 := Same.word s14 ha11
        have m14 := m11.trans (.same s14)
        have t14 := t11.ext s14
        refine ⟨_, rfl, _, rfl, ⟨_, SqL.of d14⟩, ?_⟩
        refine for_it (walk_listW (K := K) (a := D3) (w := ods)) (fun j σ H' => ∃ (v5' v10 : Option V), σ = [some (.ref p), some (.ref a), some (.str t), v3, v4, v5', some (.ref q2), some (.int (at_ : Int)), some (.ref D3), v9, v10] ∧ QB.Ext (Tof X) H14 H')
          ⟨_, _, rfl, .refl⟩ (fun j σ H' _ ⟨_, _, _, z⟩ => z.word d14) ?_ ?_
        · rintro j x σ H15 H16 hj ⟨v5', v10, rfl, e15⟩ ⟨y, hy, rfl, rfl⟩
          have yl := hod y (List.mem_of_getElem? hy)
          have kl15 := e15.word kl14
          refine ⟨⟨_, rfl⟩, _, rfl, _, rfl, _, rfl, q2, _, rfl, SqL.of kl15, fun d1 n1 => ?_⟩
          have w1 : WordAt (upd H16 d1 (.lst (cutV (vS lns) none (some (at_ : Int))))) d1 (lns.take at_) := new_cutL lns at_
          have s16 := same_new (o := .lst (cutV (vS lns) none (some (at_ : Int)))) n1
          generalize upd H16 d1 (.lst (cutV (vS lns) none (some (at_ : Int)))) = H17 at w1 s16 ⊢
          refine ⟨_, rfl, by show 1 ≤ sizeLine; decide, fun d2 n2 => ?_⟩
          have w2 : WordAt (upd H17 d2 (.lst [V.str y])) d2 [y] := upd_same
          have s17 := same_new (o := .lst [V.str y]) n2
          have w12 := Same.word s17 w1
          have s167 := s16.trans s17
          generalize upd H17 d2 (.lst [V.str y]) = H18 at w2 w12 s167 ⊢
          refine ⟨d1, d2, _, _, rfl, rfl, w12, w2, by rw [vS_len, vS_len, List.length_take]; exact sz100 (by show _ + 1 ≤ _; omega), fun d3 n3 => ?_⟩
          have w3 : WordAt (upd H18 d3 (.lst (vS (lns.take at_) ++ vS [y]))) d3 (lns.take at_ ++ [y]) := new_cat _ _
          have s168 := s167.trans (same_new (o := .lst (vS (lns.take at_) ++ vS [y])) n3)
          generalize upd H18 d3 (.lst (vS (lns.take at_) ++ vS [y])) = H19 at w3 s168 ⊢
          refine ⟨_, rfl, _, rfl, _, _, rfl, rfl, _, rfl, q2, _, rfl, SqL.of (s168 _ _ kl15), fun d4 n4 => ?_⟩
          have w4 : WordAt (upd H19 d4 (.lst (cutV (vS lns) (some ((at_ : Int) + 1)) none))) d4 (lns.drop (at_ + 1)) := new_cutR lns (at_ + 1)
          have s19 := same_new (o := .lst (cutV (vS lns) (some ((at_ : Int) + 1)) none)) n4
          have w34 := Same.word s19 w3
          have s169 := s168.trans s19
          generalize upd H19 d4 (.lst (cutV (vS lns) (some ((at_ : Int) + 1)) none)) = H20 at w4 w34 s169 ⊢
          refine ⟨d3, d4, _, _, rfl, rfl, w34, w4, by rw [vS_len, vS_len, List.length_append, List.length_take, List.length_drop]; exact sz100 (by show _ + 1 + _ ≤ _; omega), fun d5 n5 => ?_⟩
          have w5 : WordAt (upd H20 d5 (.lst (vS (lns.take at_ ++ [y]) ++ vS (lns.drop (at_ + 1))))) d5 (lns.take at_ ++ [y] ++ lns.drop (at_ + 1)) := new_cat _ _
          have s20 := s169.trans (same_new (o := .lst (vS (lns.take at_ ++ [y]) ++ vS (lns.drop (at_ + 1)))) n5)
          generalize upd H20 d5 (.lst (vS (lns.take at_ ++ [y]) ++ vS (lns.drop (at_ + 1)))) = H21 at w5 s20 ⊢
          have len5 : (lns.take at_ ++ [y] ++ lns.drop (at_ + 1)).length ≤ 33 := by
            rw [List.length_append, List.length_append, List.length_take, List.length_drop]
            show _ + 1 + _ ≤ _
            omega
          have sm5 : ∀ u ∈ lns.take at_ ++ [y] ++ lns.drop (at_ + 1), u.length ≤ 20 := fun u hu => by
            rcases List.mem_append.mp hu with hu | hu
            · rcases List.mem_append.mp hu with hu | hu
              · exact ls u (List.mem_of_mem_take hu)
              · rw [List.mem_singleton.mp hu]
                exact yl
            · exact ls u (List.mem_of_mem_drop hu)
          generalize lns.take at_ ++ [y] ++ lns.drop (at_ + 1) = ls5 at w5 len5 sm5
          have b1 : (ls5.map (·.length)).sum ≤ ls5.length * 20 := sum_le (fun t : Str => t.length) 20 sm5
          have b2 : (Str.ofString "\n").length = 1 := by decide
          have b3 := join_len (Str.ofString "\n") ls5
          rw [b2] at b3
          refine ⟨_, d5, ls5, rfl, rfl, .inl (SqL.of w5), by rw [b2]; omega, ?_⟩
          have sl5 : ShortLines (.str (Txt.join (Str.ofString "\n") ls5)) := fun u e v hv => by
            cases e
            have := (lines_run (run_joinS (n := 20) fun z hz => (run_short (tl z)).mono (sm5 z hz)) v hv).2
            omega
          generalize Txt.join (Str.ofString "\n") ls5 = some_ at b3 sl5 ⊢
          have e21 := e15.trans (.of s20)
          have wt : (PyData.str some_).weight ≤ 8000 := by
            rw [w_str]
            omega
          refine ⟨_, rfl, _, rfl, .ref a, .str some_, .list ((t0 :: tr).map .str), .str some_, rfl, tags_dv (e21.word ha14), .str _, by have := tags_weight to; omega, wt, e21.2 t14, fun p1 H22 e22 t22 rd => ?_⟩
          refine ⟨_, rfl, _, rfl, a, .str some_, t0 :: tr, .str some_, rfl, e22.word (e21.word ha14), to, .str _, wt, sl5, t22, fun p2 H23 e23 t23 d2 => ?_⟩
          refine told_due to wt ((rd.due to).ext e23) d2 ?_
          refine ⟨_, rfl, iteF ?_⟩
          exact ⟨_, _, rfl, e21.trans (e22.trans e23)⟩
        · rintro σ H15 ⟨v5', v10, rfl, e15⟩
          exact k _ (m14.trans (.ext e15))
end
end Law
end

section
set_option Elab.async false
set_option linter.all false
set_option maxRecDepth 100000
set_option maxHeartbeats 4000000
namespace Law
open PySem PySem.Spec PyProof.Rows L2 LamX QB QM QV
open TL
theorem writ_short {wd : Word} {k : Nat} (h : wd.length ≤ k) (hn : ∀ t ∈ wd, t.length ≤ 8) : (writ wd).length ≤ 9 * k + 1 := by
  unfold writ
  by_cases e : wd = []
  · rw [if_pos e]
    show 1 ≤ _
    omega
  · rw [if_neg e]
    have a := join_len (Str.ofString " ") wd
    have b := sum_le (fun t : Str => t.length) 8 hn
    have c : (Str.ofString " ").length = 1 := rfl
    have a : (Txt.join (Str.ofString " ") wd).length ≤ _ := a
    show (Txt.join (Str.ofString " ") wd).length ≤ _
    rw [c] at a
    have b : (wd.map (·.length)).sum ≤ wd.length * 8 := b
    omega
theorem line_short {tags : Word} {s : Std} {k : Nat} (to : TagsOk tags) (h1 : s.1.length ≤ k) (h2 : ∀ t ∈ s.1, t ∈ tags) (h : ∀ m, some m ∈ s.2 → m < 100) : (lineT tags s).length ≤ 9 * k + 74 := by
  unfold lineT
  rw [lenZ_add, lenZ_add]
  have a := writ_short h1 fun t ht => (to.names t (h2 t ht)).len
  have b := join_len (Str.ofString "") (toldL tags s.2)
  obtain ⟨c1, c2⟩ := toldL_len to h
  have c := sum_le (fun t : Str => t.length) 12 c2
  have c : ((toldL tags s.2).map (·.length)).sum ≤ (toldL tags s.2).length * 12 := c
  have d : (Str.ofString "").length = 0 := rfl
  have e : (Str.ofString ":").length = 1 := rfl
  rw [d] at b
  rw [e]
  omega
/-- how long the text of a form is, and its lines -/
theorem text_short {tags : Word} {F : Form} {n : Nat} (hl : ∀ s ∈ F, (lineT tags s).length ≤ n) : (eaterT tags F).length ≤ F.length * (n + 1) ∧ Run n (tl (eaterT tags F)) := by
  constructor
  · have b1 : ((F.map (lineT tags)).map (·.length)).sum ≤ (F.map (lineT tags)).length * n := sum_le (fun t : Str => t.length) n fun t ht => by
      obtain ⟨s, hs, rfl⟩ := List.mem_map.mp ht
      exact hl s hs
    have := join_len (Str.ofString "\n") (F.map (lineT tags))
    have en : (Str.ofString "\n").length = 1 := by decide +kernel
    rw [List.length_map, en] at this
    rw [List.length_map] at b1
    unfold eaterT
    rw [Nat.mul_add]
    omega
  · exact run_joinS fun u hu => by
      obtain ⟨s, hs, rfl⟩ := List.mem_map.mp hu
      exact (run_short _).mono (hl s hs)
/-- what is let to be read -/
def GoodT (H : Hp) (v : V) : Prop := ∃ dy, Dv H v dy ∧ dy.weight ≤ 8000 ∧ ShortLines dy
theorem GoodT.str {H : Hp} {u : Str} (h : u.length ≤ 8000) (r : Run 640 (tl u)) : GoodT H (.str u) := ⟨.str u, .str u, by rw [w_str]; exact h, fun t e v hv => by
  cases e
  exact (lines_run r v hv).2⟩
theorem GoodT.one {H : Hp} {u : Str} (h : u.length ≤ 640) : GoodT H (.str u) := .str (by omega) ((run_short (tl u)).mono h)
theorem GoodT.non {H : Hp} : GoodT H .non := ⟨.none, .non, by rw [PyData.weight]; decide, fun t e => nomatch e⟩
theorem GoodT.ext {T : List (Addr × Str)} {H H' : Hp} {v : V} (h : GoodT H v) (x : QB.Ext T H H') : GoodT H' v := by
  obtain ⟨dy, h1, h2⟩ := h
  exact ⟨dy, h1.ext x, h2⟩
/-- where the law stands -/
structure Cur (T : List (Addr × Str)) (C : Addr) (H0 H : Hp) (p a f e : Addr) (tags : Word) (F : Form) : Prop where
  ext : QB.Ext T H0 H
  fp : Fresh H0 p
  pl : PileAt H p
  wa : WordAt H a tags
  fm : FmP p H f F
  et : EtP C p H e tags (least tags F)
section
variable {T : List (Addr × Str)} {C : Addr} {H0 H H' : Hp} {p a f e : Addr} {tags : Word} {F : Form}
theorem Cur.mx (c : Cur T C H0 H p a f e tags F) (x : Mx T p H H') : Cur T C H0 H' p a f e tags F := ⟨x.to c.ext c.fp, c.fp, x.2.2 c.pl, x.word c.pl c.wa, c.fm.mx x, c.et.mx x⟩
theorem Cur.exT (c : Cur T C H0 H p a f e tags F) (x : QB.Ext T H H') : Cur T C H0 H' p a f e tags F := c.mx (.ext x)
theorem Cur.same (c : Cur T C H0 H p a f e tags F) (x : Same H H') : Cur T C H0 H' p a f e tags F := c.mx (.same x)
theorem Cur.exc (c : Cur T C H0 H p a f e tags F) (x : Exc [p] H H') (pl : PileAt H' p) : Cur T C H0 H' p a f e tags F := c.mx (.exc x c.pl pl)
end
section
variable {P : Program} {w : World} {K : PySem.W.Frag} {mg : Str → Option Value} {base : Heap}
def spLaw (K : PySem.W.Frag) (T : List (Addr × Str)) : Sp := fun vs H Q _ => ∃ (l : Addr) (ns : List Int), vs = [.ref l] ∧ SqL K H l (ns.map V.int) ∧ Tabs T H ∧ ∀ H', Q (.bl true) H'
theorem ok_law (X : TX K mg) (TB : LamX.TabB base mg X.lam_c X.lam_P) (hB : ∃ mm, base.Ns sysModules mm) (hc : Room 10 callerA) : QT.RunG P w K mg base CX0 X.d_law.a X.d_law.fd "script" (spLaw K (Tof X)) := by
  have nd := sc_law.nd
  refine QT.run_ofG X.d_law.F sc_law hc (fun vs H Q E h => ?_) (fun cdv s0 H vs Q E hr h => ?_)
  · obtain ⟨l, ns, rfl, _⟩ := h
    rfl
  · obtain ⟨l, ns, rfl, hl, tb, k⟩ := h
    refine ⟨_, (pss_cons (ps_for PassesOwn.never rfl (pi_range1 (by rfl) X.n_range (pa_cons pe_int pa_nil)) (pg_name (i := 1) nd rfl (Or.inl rfl)) (pss_cons (ps_set (i := 2) nd rfl (Or.inl rfl) (pe_call (ok__law_pile X) (hr.mono (by decide)) rfl X.d__law_pile.mg X.d__law_pile.F.kp X.d__law_pile.b .nil pass0 (pa_cons (pv 0) (pa_cons (pv 1) pa_nil)))) (pss_cons (ps_set (i := 3) nd rfl (Or.inl rfl) (pe_call (ok__law_tags X) (hr.mono (by decide)) rfl X.d__law_tags.mg X.d__law_tags.F.kp X.d__law_tags.b .nil pass0 (pa_cons (pv 2) (pa_cons (pe_op op_add pe_int (pe_call (ok__law_take X) (hr.mono (by decide)) rfl X.d__law_take.mg X.d__law_take.F.kp X.d__law_take.b .nil pass0 (pa_cons (pv 2) (pa_cons pe_int pa_nil)))) pa_nil)))) (pss_cons (ps_set (i := 4) nd rfl (Or.inl rfl) (pe_call (ok__law_standings X) (hr.mono (by decide)) rfl X.d__law_standings.mg X.d__law_standings.F.kp X.d__law_standings.b .nil pass0 (pa_cons (pv 2) (pa_cons (pv 3) (pa_cons pe_int (pa_cons pe_int pa_nil)))))) (pss_cons (ps_set (i := 5) nd rfl (Or.inl rfl) (pe_make X.mk_Eater (ok_Eater___init__ X TB) (hr.mono (by decide)) rfl X.m_Eater X.d_Eater___init__.b .nil pass0 (pa_cons (pv 3) (pa_cons (pv 4) pa_nil)))) (pss_cons (ps_set (i := 6) nd rfl (Or.inl rfl) (pe_call (ok_eater_text X) (hr.mono (by decide)) rfl X.d_eater_text.mg X.d_eater_text.F.kp X.d_eater_text.b .nil pass0 (pa_cons (pv 5) pa_nil))) (pss_cons (ps_if (PW.pt (pw_or (pt_cmpR op_ne (pv 6) (pe_call (ok__law_written X) (hr.mono (by decide)) rfl X.d__law_written.mg X.d__law_written.F.kp X.d__law_written.b .nil pass0 (pa_cons (pv 3) (pa_cons (pe_meth0 (pv 5) X.cl_Eater X.h_Eater_standings (ok_Eater_standings X) (hr.mono (by decide)) X.d_Eater_standings.b .nil pass0) pa_nil))) (nomark _)) (pw_or1 (pt_not (pt_cmpR (QO.op_eqO (ok_Eater___eq__ X) X.h_Eater___eq__ (hr.mono (by decide)) X.d_Eater___eq__.b pass0) (pe_call (ok_read_eater X TB) (hr.mono (by decide)) rfl X.d_read_eater.mg X.d_read_eater.F.kp X.d_read_eater.b .nil pass0 (pa_cons (pv 3) (pa_cons (pv 6) pa_nil))) (pv 5) (nomark _)))))) (pss_one (ps_ret pe_bl)) pss_nil) (pss_cons (ps_set (i := 7) nd rfl (Or.inl rfl) (pe_call (ok__law_written X) (hr.mono (by decide)) rfl X.d__law_written.mg X.d__law_written.F.kp X.d__law_written.b .nil pass0 (pa_cons (pv 3) (pa_cons (pv 4) pa_nil)))) (pss_cons (ps_if (PW.pt (pw_or (pt_not (pt_cmpR (QO.op_eqO (ok_Eater___eq__ X) X.h_Eater___eq__ (hr.mono (by decide)) X.d_Eater___eq__.b pass0) (pe_call (ok_read_eater X TB) (hr.mono (by decide)) rfl X.d_read_eater.mg X.d_read_eater.F.kp X.d_read_eater.b .nil pass0 (pa_cons (pv 3) (pa_cons (pv 7) pa_nil))) (pv 5) (nomark _))) (pw_or1 (pt_cmpR op_ne (pe_call (ok_eater_text X) (hr.mono (by decide)) rfl X.d_eater_text.mg X.d_eater_text.F.kp X.d_eater_text.b .nil pass0 (pa_cons (pv 5) pa_nil)) (pv 6) (nomark _))))) (pss_one (ps_ret pe_bl)) pss_nil) (pss_cons (ps_set (i := 8) nd rfl (Or.inl rfl) (pe_call (ok__law_bent X) (hr.mono (by decide)) rfl X.d__law_bent.mg X.d__law_bent.F.kp X.d__law_bent.b .nil pass0 (pa_cons (pv 2) (pa_cons (pv 7) (pa_cons (pv 3) pa_nil))))) (pss_cons (ps_set (i := 9) nd rfl (Or.inl rfl) (pe_join pe_str (pe_op op_rep (pe_lst (pa_cons pe_str pa_nil)) (pe_op op_add pe_int (pe_call (ok__law_take X) (hr.mono (by decide)) rfl X.d__law_take.mg X.d__law_take.F.kp X.d__law_take.b .nil pass0 (pa_cons (pv 2) (pa_cons pe_int pa_nil))))))) (pss_cons (ps_set (i := 10) nd rfl (Or.inl rfl) (pe_op op_add_str (pe_join pe_str (pe_op op_rep (pe_slice (QB.sl_listK K) (pv 3) po_none (po_some pe_int)) (pe_op op_add pe_int (pe_call (ok__law_take X) (hr.mono (by decide)) rfl X.d__law_take.mg X.d__law_take.F.kp X.d__law_take.b .nil pass0 (pa_cons (pv 2) (pa_cons pe_int pa_nil)))))) pe_str)) (pss_cons (ps_set (i := 11) nd rfl (Or.inl rfl) (pe_lst (pa_cons (pv 8) (pa_cons (pe_call (ok__law_bent X) (hr.mono (by decide)) rfl X.d__law_bent.mg X.d__law_bent.F.kp X.d__law_bent.b .nil pass0 (pa_cons (pv 2) (pa_cons (pv 8) (pa_cons (pv 3) pa_nil)))) (pa_cons (pe_call (ok__law_bent X) (hr.mono (by decide)) rfl X.d__law_bent.mg X.d__law_bent.F.kp X.d__law_bent.b .nil pass0 (pa_cons (pv 2) (pa_cons (pv 6) (pa_cons (pv 3) pa_nil)))) (pa_cons (pv 9) (pa_cons (pv 10) pa_nil))))))) (pss_cons (ps_for PassesOwn.never rfl (QB.pi_listK K (pe_op op_cat (pv 11) (pe_lst (pa_cons pe_str (pa_cons pe_str (pa_cons pe_str (pa_cons pe_str (pa_cons pe_non pa_nil)))))))) (pg_name (i := 12) nd rfl (Or.inl rfl)) (pss_one (ps_if (pt_cmpR (QB.op_neDK K hr.units) (pe_call (ok__law_told X TB) (hr.mono (by decide)) rfl X.d__law_told.mg X.d__law_told.F.kp X.d__law_told.b .nil pass0 (pa_cons (pv 3) (pa_cons (pv 12) pa_nil))) (pe_call (ok__law_due X TB) (hr.mono (by decide)) rfl X.d__law_due.mg X.d__law_due.F.kp X.d__law_due.b .nil pass0 (pa_cons (pv 3) (pa_cons (pv 12) pa_nil))) (nomark _)) (pss_one (ps_ret pe_bl)) pss_nil))) (pss_cons (ps_if (PW.pt (pw_or (pt_not (pt_val (pe_call (ok__law_great_right X TB) (hr.mono (by decide)) rfl X.d__law_great_right.mg X.d__law_great_right.F.kp X.d__law_great_right.b .nil pass0 (pa_cons (pv 2) (pa_cons (pv 3) pa_nil))))) (pw_or1 (pt_not (pt_val (pe_call (ok__law_tags_right X TB) (hr.mono (by decide)) rfl X.d__law_tags_right.mg X.d__law_tags_right.F.kp X.d__law_tags_right.b .nil pass0 (pa_cons (pv 2) (pa_cons (pv 3) (pa_cons (pv 6) pa_nil))))))))) (pss_one (ps_ret pe_bl)) pss_nil) (pss_one (ps_for PassesOwn.never rfl (QB.pi_listK K (pe_lst (pa_cons pe_int (pa_cons (pe_lst (pa_cons (pv 6) pa_nil)) (pa_cons (pe_op op_add_str (pe_op op_add_str pe_str (pe_ix (QB.ix_listK K) (pv 3) pe_int (fun _ _ => rfl))) pe_str) (pa_cons (pe_op op_add_str (pe_op op_add_str pe_str (pe_ix (QB.ix_listK K) (pv 3) pe_int (fun _ _ => rfl))) pe_str) (pa_cons (pe_op op_add_str (pe_op op_add_str pe_str (pe_ix (QB.ix_listK K) (pv 3) pe_int (fun _ _ => rfl))) pe_str) pa_nil))))))) (pg_name (i := 12) nd rfl (Or.inl rfl)) (pss_one (ps_if (pt_cmpR (QB.op_neDK K hr.units) (pe_call (ok__law_told X TB) (hr.mono (by decide)) rfl X.d__law_told.mg X.d__law_told.F.kp X.d__law_told.b .nil pass0 (pa_cons (pv 3) (pa_cons (pv 12) pa_nil))) (pe_call (ok__law_due X TB) (hr.mono (by decide)) rfl X.d__law_due.mg X.d__law_due.F.kp X.d__law_due.b .nil pass0 (pa_cons (pv 3) (pa_cons (pv 12) pa_nil))) (nomark _)) (pss_one (ps_ret pe_bl)) pss_nil))))))))))))))))))) (pss_one (ps_ret pe_bl))), ?_⟩
    try dsimp only [Cx.nox, Cx.wish, cxOf]
    refine ⟨(6 : Int), rfl, by decide, by decide, ?_⟩
    refine for_it (walk_range (lo := 0) (n := 6)) (fun i σ H' => ∃ v1 v2 v3 v4 v5 v6 v7 v8 v9 v10 v11 v12 : Option V, σ = [some (.ref l), v1, v2, v3, v4, v5, v6, v7, v8, v9, v10, v11, v12] ∧ QB.Ext (Tof X) H H')
      ⟨none, none, none, none, none, none, none, none, none, none, none, none, rfl, .refl⟩ (fun _ _ _ _ _ => True.intro) ?_ ?_
    · rintro i x σ H1 H2 hi ⟨v1, v2, v3, v4, v5, v6, v7, v8, v9, v10, v11, v12, rfl, e1⟩ ⟨rfl, rfl⟩
      -- the pile
      refine ⟨_, rfl, _, rfl, ?_⟩
      refine ⟨l, ns, 0 + i, rfl, e1.sqL hl, fun p H3 s3 np p3 => ?_⟩
      have e3 := e1.trans (.of s3)
      have fp : Fresh H p := e1.fresh (.of np)
      clear s3 np e1
      -- the tags
      refine ⟨_, rfl, _, rfl, ?_⟩
      refine ⟨p, 6, rfl, by decide, by decide, p3, fun r H4 hr4 x4 p4 => ?_⟩
      have e4 := (Mx.exc x4 p3 p4).to e3 fp
      refine ⟨_, _, rfl, rfl, ?_⟩
      refine ⟨p, 1 + r, rfl, by omega, by omega, p4, fun tags a H5 to tl_ x5 p5 na wa => ?_⟩
      have e5 := (Mx.exc x5 p4 p5).to e4 fp
      clear x4 x5 p3 p4 e3 e4 na tl_
      have htl := to.len
      obtain ⟨t0, tr, rfl⟩ : ∃ t0 tr, tags = t0 :: tr := by
        cases tags with
        | nil => exact absurd to.pos (by decide)
        | cons t0 tr => exact ⟨t0, tr, rfl⟩
      have n0 := to.names t0 List.mem_cons_self
      have l0 := n0.len
      have at0 : atI (vS (t0 :: tr)) 0 = some (.str t0) := atI_nat (j := 0) rfl
      have take1 : cutV (vS (t0 :: tr)) none (some 1) = [V.str t0] := cut_take _ 1
      -- the standings
      refine ⟨_, rfl, _, rfl, p, a, t0 :: tr, 4, 3, rfl, by decide, by decide, by decide, p5, wa, to, fun F L f H6 fo fl h3 x6 p6 n6 => ?_⟩
      have fm6 : FmP p H6 f F := ⟨H5, L, p5, n6⟩
      have m6 := Mx.exc (T := Tof X) x6 p5 p6
      have e6 := m6.to e5 fp
      have wa6 := m6.word p5 wa
      clear x6 m6 n6 p5 wa e5
      -- the eater
      refine ⟨_, rfl, _, rfl, fun e dx ho hd hne => ?_⟩
      have t6 := e6.2 tb
      have sM : Same H6 (upd (upd H6 dx (.own e)) e (.ins X.c_Eater dx [])) := Same.new (same_new hd) ((upd_ne hne.symm).trans ho)
      refine ⟨e, dx, a, f, t0 :: tr, F, H6, rfl, upd_same, Same.word sM wa6, Same.form sM fm6.form, to, fo, t6.ext sM, .of sM, .of ho, fun a1 b1 M1 H7 e7 _ n7 => ⟨rfl, ?_⟩⟩
      have cu : Cur (Tof X) X.c_Eater H H7 p a f e (t0 :: tr) F := ⟨e6.trans e7, fp, (Mx.ext e7).2.2 p6, e7.word wa6, fm6.mx (.ext e7), ⟨H6, dx, a1, b1, M1, p6, n7⟩⟩
      clear e7 n7 sM t6 ho hd hne wa6 e6 fp fm6 p6
      show tSeq _ _ _ (List.set _ 5 _) _
      generalize hσ : (List.set _ 5 _) = σ5
      have eσ : σ5 = [some (.ref l), some (.int (0 + (i : Int))), some (.ref p), some (.ref a), some (.ref f), some (.ref e), v6, v7, v8, v9, v10, v11, v12] := by
        rw [← hσ]
        rfl
      subst eσ
      clear hσ
      have ft := fo.text
      have lo := fo.leastOk
      have lt := lo.text
      have ag : least (t0 :: tr) (least (t0 :: tr) F) = least (t0 :: tr) F := least_again fo.good to.nd
      have wl := FormOk.wordsOk to lo
      have ll := least_len fo.good
      obtain ⟨tl1, tl2⟩ := text_short (n := 200) (tags := t0 :: tr) (F := least (t0 :: tr) F) fun s hs => line_len to (lt.words s hs).1 (lt.words s hs).2 (lt.ways s hs).2
      obtain ⟨pl1, pl2⟩ := text_short (n := 101) (tags := t0 :: tr) (F := F) fun s hs => line_short (k := 3) to (h3 s hs) (ft.words s hs).2 (ft.ways s hs).2
      have pbL := parse_back to lo
      have pbF := parse_back to fo
      -- the text
      refine ⟨_, rfl, e, t0 :: tr, least (t0 :: tr) F, rfl, cu.et.at_, to, lt, fun H8 s8 => ?_⟩
      have cu := cu.same s8
      clear s8
      obtain ⟨dx5, ea, eb, i1, i2, i3⟩ := id cu.et.at_
      refine ⟨_, rfl, _, rfl, _, rfl, e, dx5, _, rfl, i1, rfl, ?_⟩
      refine ⟨e, t0 :: tr, _, rfl, cu.et.at_, by omega, fun q L9 H9 s9 n9 => ?_⟩
      have cu := cu.same s9
      refine ⟨a, q, t0 :: tr, least (t0 :: tr) F, rfl, cu.wa, n9.form, to, lt, fun H10 s10 => ?_⟩
      have cu := cu.same s10
      clear s9 s10 n9 i1 i2 i3
      refine ⟨rfl, _, rfl, ?_⟩
      rw [decide_eq_true rfl]
      refine iteF ?_
      refine ⟨_, rfl, _, rfl, a, _, t0 :: tr, least (t0 :: tr) F, rfl, cu.wa, to, by omega, pbL, cu.ext.2 tb, fun e1 H11 e11 t11 he1 => ?_⟩
      rw [ag] at he1
      have cu := cu.exT e11
      obtain ⟨dz, za, zb, iz, iz2⟩ := id he1
      obtain ⟨dy, ya, yb, iy, iy2⟩ := id cu.et.at_
      refine ⟨_, rfl, e1, dz, _, _, rfl, iz, X.oc_Eater.ty X.cl_Eater iy, QO.OwnC.same, ?_⟩
      refine eatEq he1 cu.et.at_ wl wl ?_
      rw [decide_eq_true rfl]
      refine ⟨_, rfl, _, rfl, iteF ?_⟩
      clear iz iz2 iy iy2 he1 dz za zb dy ya yb
      -- as they are
      refine ⟨_, rfl, _, rfl, a, f, t0 :: tr, F, rfl, cu.wa, cu.fm.form, to, ft, fun H12 s12 => ?_⟩
      have cu := cu.same s12
      refine ⟨_, rfl, _, rfl, a, _, t0 :: tr, F, rfl, cu.wa, to, by omega, pbF, cu.ext.2 tb, fun e2 H13 e13 t13 he2 => ?_⟩
      have cu := cu.exT e13
      obtain ⟨dz, za, zb, iz, iz2⟩ := id he2
      obtain ⟨dy, ya, yb, iy, iy2⟩ := id cu.et.at_
      refine ⟨_, rfl, e2, dz, _, _, rfl, iz, X.oc_Eater.ty X.cl_Eater iy, QO.OwnC.same, ?_⟩
      refine eatEq he2 cu.et.at_ wl wl ?_
      rw [decide_eq_true rfl]
      refine ⟨_, rfl, _, rfl, iteF ?_⟩
      clear iz iz2 iy iy2 he2 dz za zb dy ya yb
      refine ⟨_, rfl, e, t0 :: tr, least (t0 :: tr) F, rfl, cu.et.at_, to, lt, fun H14 s14 => ?_⟩
      have cu := cu.same s14
      refine ⟨_, rfl, rfl, _, rfl, ?_⟩
      rw [decide_eq_true rfl]
      refine iteF ?_
      clear s14 s12
      -- bent texts
      generalize hT : eaterT (t0 :: tr) (least (t0 :: tr) F) = text at tl1 tl2 ⊢
      generalize hP : eaterT (t0 :: tr) F = plain at pl1 pl2 ⊢
      clear hT hP pbL pbF
      refine ⟨_, rfl, _, rfl, _, rfl, p, a, plain, t0 :: tr, 101, rfl, cu.pl, cu.wa, to, by omega, pl2, fun b1 H15 x15 p15 bl1 br1 => ?_⟩
      have cu := cu.exc x15 p15
      clear x15 p15
      -- many
      refine ⟨⟨_, rfl⟩, by show 1 ≤ sizeLine; decide, fun q1 h1 => ?_⟩
      have s16 := same_new (o := .lst [V.str (Str.ofString "-:")]) h1
      have k16 : (upd H15 q1 (.lst [V.str (Str.ofString "-:")])) q1 = some (.lst [V.str (Str.ofString "-:")]) := upd_same
      have qp := cu.pl.ne h1
      have cu := cu.same s16
      generalize upd H15 q1 (.lst [V.str (Str.ofString "-:")]) = H16 at k16 cu ⊢
      clear s16 h1
      refine ⟨_, rfl, p, 3, rfl, by decide, by decide, cu.pl, fun r2 H17 hr2 x17 p17 => ?_⟩
      have k17 := x17 q1 _ (by simpa using qp.symm) k16
      have cu := cu.exc x17 p17
      refine ⟨_, _, rfl, rfl, ?_⟩
      refine ⟨q1, ((29 + r2 : Nat) : Int), _, rfl, rfl, k17, by omega, by omega, by show 1 * (29 + r2) ≤ sizeLine; exact sz100 (by omega), fun q2 h2 => ?_⟩
      generalize hH18 : upd H17 q2 _ = H18
      have s18 : Same H17 H18 := by
        rw [← hH18]
        exact same_new h2
      have kl : WordAt H18 q2 (List.replicate (29 + r2) (Str.ofString "-:")) := by
        rw [← hH18]
        unfold WordAt vS
        rw [upd_same, Int.toNat_natCast, pt_rep, List.map_replicate]
      clear hH18 h2 x17 p17 k16 k17 qp
      have cu := cu.same s18
      clear s18
      have ll1 : (List.replicate (29 + r2) (Str.ofString "-:")).length ≤ 31 := by rw [List.length_replicate]; omega
      have ls1 : ∀ u ∈ List.replicate (29 + r2) (Str.ofString "-:"), u.length ≤ 2 := fun u hu => by
        rw [List.eq_of_mem_replicate hu]
        decide
      generalize List.replicate (29 + r2) (Str.ofString "-:") = lns at kl ll1 ls1
      have c1 : (lns.map (·.length)).sum ≤ lns.length * 2 := sum_le (fun t : Str => t.length) 2 ls1
      have c2 : (Str.ofString "\n").length = 1 := by decide
      have c3 := join_len (Str.ofString "\n") lns
      rw [c2] at c3
      refine ⟨_, q2, lns, rfl, rfl, .inl (SqL.of kl), by rw [c2]; omega, ?_⟩
      have gM : (Txt.join (Str.ofString "\n") lns).length ≤ 640 := by omega
      generalize Txt.join (Str.ofString "\n") lns = many at gM ⊢
      clear c1 c2 c3 ls1 ll1 kl
      -- long
      refine ⟨⟨_, rfl⟩, _, rfl, _, rfl, a, _, rfl, SqL.of cu.wa, fun q3 h3 => ?_⟩
      rw [take1]
      have s19 := same_new (o := .lst [V.str t0]) h3
      have k19 : (upd H18 q3 (.lst [V.str t0])) q3 = some (.lst [V.str t0]) := upd_same
      have qp := cu.pl.ne h3
      have cu := cu.same s19
      generalize upd H18 q3 (.lst [V.str t0]) = H19 at k19 cu ⊢
      clear s19 h3
      refine ⟨_, rfl, p, 2, rfl, by decide, by decide, cu.pl, fun r3 H20 hr3 x20 p20 => ?_⟩
      have k20 := x20 q3 _ (by simpa using qp.symm) k19
      have cu := cu.exc x20 p20
      refine ⟨_, _, rfl, rfl, ?_⟩
      refine ⟨q3, ((8 + r3 : Nat) : Int), _, rfl, rfl, k20, by omega, by omega, by show 1 * (8 + r3) ≤ sizeLine; exact sz100 (by omega), fun q4 h4 => ?_⟩
      generalize hH21 : upd H20 q4 _ = H21
      have s21 : Same H20 H21 := by
        rw [← hH21]
        exact same_new h4
      have kl : WordAt H21 q4 (List.replicate (8 + r3) t0) := by
        rw [← hH21]
        unfold WordAt vS
        rw [upd_same, Int.toNat_natCast, pt_rep, List.map_replicate]
      clear hH21 h4 x20 p20 k19 k20 qp
      have cu := cu.same s21
      clear s21
      have ll1 : (List.replicate (8 + r3) t0).length ≤ 9 := by rw [List.length_replicate]; omega
      have ls1 : ∀ u ∈ List.replicate (8 + r3) t0, u.length ≤ 8 := fun u hu => by
        rw [List.eq_of_mem_replicate hu]
        exact l0
      generalize List.replicate (8 + r3) t0 = lns at kl ll1 ls1
      have c1 : (lns.map (·.length)).sum ≤ lns.length * 8 := sum_le (fun t : Str => t.length) 8 ls1
      have c2 : (Str.ofString " ").length = 1 := by decide
      have c3 := join_len (Str.ofString " ") lns
      rw [c2] at c3
      refine ⟨_, q4, lns, rfl, rfl, .inl (SqL.of kl), by rw [c2]; omega, _, _, rfl, rfl, by show _ + 1 ≤ _; exact sz100 (by omega), ?_⟩
      have gL : (Txt.join (Str.ofString " ") lns ++ Str.ofString ":").length ≤ 640 := by rw [lenZ_add]; show _ + 1 ≤ _; omega
      generalize Txt.join (Str.ofString " ") lns ++ Str.ofString ":" = long at gL ⊢
      clear c1 c2 c3 ls1 ll1 kl
      -- the texts
      refine ⟨_, rfl, _, rfl, _, rfl, _, rfl, p, a, b1, t0 :: tr, 2 * 101 + 11, rfl, cu.pl, cu.wa, to, by omega, br1, fun b2 H22 x22 p22 bl2 br2 => ?_⟩
      have cu := cu.exc x22 p22
      clear x22 p22
      refine ⟨_, rfl, _, rfl, _, rfl, p, a, text, t0 :: tr, 200, rfl, cu.pl, cu.wa, to, by omega, tl2, fun b3 H23 x23 p23 bl3 br3 => ?_⟩
      have cu := cu.exc x23 p23
      clear x23 p23
      refine ⟨_, rfl, _, rfl, by show 5 ≤ sizeLine; decide, fun q5 h5 => ?_⟩
      have k24 : (upd H23 q5 (.lst [V.str b1, V.str b2, V.str b3, V.str many, V.str long])) q5 = some (.lst [V.str b1, V.str b2, V.str b3, V.str many, V.str long]) := upd_same
      have cu := cu.same (same_new (o := .lst [V.str b1, V.str b2, V.str b3, V.str many, V.str long]) h5)
      generalize upd H23 q5 (.lst [V.str b1, V.str b2, V.str b3, V.str many, V.str long]) = H24 at k24 cu ⊢
      have g1 : GoodT H24 (.str b1) := .str (by omega) (br1.mono (by omega))
      have g2 : GoodT H24 (.str b2) := .str (by omega) (br2.mono (by omega))
      have g3 : GoodT H24 (.str b3) := .str (by omega) (br3.mono (by omega))
      have g4 : GoodT H24 (.str many) := .one gM
      have g5 : GoodT H24 (.str long) := .one gL
      clear h5 gM gL bl1 bl2 bl3 br1 br2 br3
      refine ⟨_, rfl, by show 5 ≤ sizeLine; decide, fun q6 h6 => ?_⟩
      have sn := same_new (o := .lst [V.str (Str.ofString ""), V.str (Str.ofString "-"), V.str (Str.ofString ":"), V.str (Str.ofString "-:"), V.non]) h6
      have k25 : (upd H24 q6 (.lst [V.str (Str.ofString ""), V.str (Str.ofString "-"), V.str (Str.ofString ":"), V.str (Str.ofString "-:"), V.non])) q6 = some (.lst [V.str (Str.ofString ""), V.str (Str.ofString "-"), V.str (Str.ofString ":"), V.str (Str.ofString "-:"), V.non]) := upd_same
      have cu := cu.same sn
      have k24 := sn _ _ k24
      have g1 := g1.ext (T := []) (.of sn)
      have g2 := g2.ext (T := []) (.of sn)
      have g3 := g3.ext (T := []) (.of sn)
      have g4 := g4.ext (T := []) (.of sn)
      have g5 := g5.ext (T := []) (.of sn)
      generalize upd H24 q6 (.lst [V.str (Str.ofString ""), V.str (Str.ofString "-"), V.str (Str.ofString ":"), V.str (Str.ofString "-:"), V.non]) = H25 at k24 k25 cu g1 g2 g3 g4 g5 ⊢
      clear sn h6
      refine ⟨q5, q6, _, _, rfl, rfl, k24, k25, by show 10 ≤ sizeLine; decide, fun q7 h7 => ?_⟩
      let xs : List V := [V.str b1, V.str b2, V.str b3, V.str many, V.str long, V.str (Str.ofString ""), V.str (Str.ofString "-"), V.str (Str.ofString ":"), V.str (Str.ofString "-:"), V.non]
      generalize hH26 : upd H25 q7 _ = H26
      have s26 : Same H25 H26 := by
        rw [← hH26]
        exact same_new h7
      have k26 : H26 q7 = some (.lst xs) := by
        rw [← hH26]
        exact upd_same
      clear hH26
      have cu := cu.same s26
      have hxs : ∀ v ∈ xs, GoodT H26 v := fun v hv => by
        have hv : v = .str b1 ∨ v = .str b2 ∨ v = .str b3 ∨ v = .str many ∨ v = .str long ∨ v = .str (Str.ofString "") ∨ v = .str (Str.ofString "-") ∨ v = .str (Str.ofString ":") ∨ v = .str (Str.ofString "-:") ∨ v = .non := by simpa [xs] using hv
        rcases hv with rfl | rfl | rfl | rfl | rfl | rfl | rfl | rfl | rfl | rfl
        · exact g1.ext (T := []) (.of s26)
        · exact g2.ext (T := []) (.of s26)
        · exact g3.ext (T := []) (.of s26)
        · exact g4.ext (T := []) (.of s26)
        · exact g5.ext (T := []) (.of s26)
        · exact .one (by decide)
        · exact .one (by decide)
        · exact .one (by decide)
        · exact .one (by decide)
        · exact .non
      clear g1 g2 g3 g4 g5 k24 k25 h7 s26
      clear_value xs
      refine ⟨q7, rfl, ⟨_, SqL.of k26⟩, ?_⟩
      refine for_it (walk_list (K := K) (a := q7) (xs := xs)) (fun j σ H' => ∃ v12 : Option V, σ = [some (.ref l), some (.int (0 + (i : Int))), some (.ref p), some (.ref a), some (.ref f), some (.ref e), some (.str text), some (.str plain), some (.str b1), some (.str many), some (.str long), some (.ref q5), v12] ∧ QB.Ext (Tof X) H26 H')
        ⟨_, rfl, .refl⟩ (fun j σ H' _ ⟨_, _, x⟩ => x.sqL (SqL.of k26)) ?_ ?_
      · rintro j x σ H27 H28 hj ⟨v12', rfl, e27⟩ ⟨rfl, hx⟩
        obtain ⟨dy, y1, y2, y3⟩ := (hxs x (List.mem_of_getElem? hx)).ext e27
        have cu := cu.exT e27
        refine ⟨_, rfl, _, rfl, .ref a, x, .list ((t0 :: tr).map .str), dy, rfl, tags_dv cu.wa, y1, by have := tags_weight to; omega, y2, cu.ext.2 tb, fun p1 H29 e29 t29 rd => ?_⟩
        refine ⟨_, rfl, _, rfl, a, x, t0 :: tr, dy, rfl, e29.word cu.wa, to, y1.ext e29, y2, y3, t29, fun p2 H30 e30 t30 d2 => ?_⟩
        refine told_due to y2 ((rd.due to).ext e30) d2 ?_
        refine ⟨_, rfl, iteF ?_⟩
        exact ⟨_, rfl, e27.trans (e29.trans e30)⟩
      · rintro σ H27 ⟨v12', rfl, e27⟩
        have cu := cu.exT e27
        clear hxs k26 e27
        -- the great ones, the tags
        refine ⟨_, rfl, _, rfl, p, a, t0 :: tr, rfl, cu.pl, cu.wa, to, cu.ext.2 tb, fun H28 m28 => ?_⟩
        have cu := cu.mx m28
        refine ⟨_, rfl, iteF ?_⟩
        refine ⟨_, rfl, _, rfl, _, rfl, p, a, t0 :: tr, text, rfl, cu.pl, cu.wa, to, by omega, cu.ext.2 tb, fun H29 m29 => ?_⟩
        have cu := cu.mx m29
        refine ⟨_, rfl, iteF ?_⟩
        clear m28 m29
        -- odd things
        refine ⟨_, rfl, by show 1 ≤ sizeLine; decide, fun q8 h8 => ?_⟩
        have s30 := same_new (o := .lst [V.str text]) h8
        have k30 : (upd H29 q8 (.lst [V.str text])) q8 = some (.lst [V.str text]) := upd_same
        have cu := cu.same s30
        generalize upd H29 q8 (.lst [V.str text]) = H30 at k30 cu ⊢
        clear s30 h8
        refine ⟨_, rfl, a, _, 0, .str t0, rfl, rfl, SqL.of cu.wa, at0, _, _, rfl, rfl, by show 3 + t0.length ≤ _; exact sz100 (by omega), _, _, rfl, rfl, by rw [lenZ_add]; show 3 + t0.length + 3 ≤ _; exact sz100 (by omega), ?_⟩
        refine ⟨_, rfl, a, _, 0, .str t0, rfl, rfl, SqL.of cu.wa, at0, _, _, rfl, rfl, by show 3 + t0.length ≤ _; exact sz100 (by omega), _, _, rfl, rfl, by rw [lenZ_add]; show 3 + t0.length + 3 ≤ _; exact sz100 (by omega), ?_⟩
        refine ⟨_, rfl, a, _, 0, .str t0, rfl, rfl, SqL.of cu.wa, at0, _, _, rfl, rfl, by show 3 + t0.length ≤ _; exact sz100 (by omega), _, _, rfl, rfl, by rw [lenZ_add]; show 3 + t0.length + 3 ≤ _; exact sz100 (by omega), ?_⟩
        refine ⟨by show 5 ≤ sizeLine; decide, fun q9 h9 => ?_⟩
        let ys : List V := [V.int 0, V.ref q8, V.str (Str.ofString "-: " ++ t0 ++ Str.ofString "=30"), V.str (Str.ofString "-: " ++ t0 ++ Str.ofString "=01"), V.str (Str.ofString "-: " ++ t0 ++ Str.ofString "=0\n")]
        generalize hH31 : upd H30 q9 _ = H31
        have s31 : Same H30 H31 := by
          rw [← hH31]
          exact same_new h9
        have k31 : H31 q9 = some (.lst ys) := by
          rw [← hH31]
          exact upd_same
        clear hH31
        have cu := cu.same s31
        have k30 := s31 _ _ k30
        have hys : ∀ v ∈ ys, GoodT H31 v := fun v hv => by
          have hv : v = .int 0 ∨ v = .ref q8 ∨ v = V.str (Str.ofString "-: " ++ t0 ++ Str.ofString "=30") ∨ v = V.str (Str.ofString "-: " ++ t0 ++ Str.ofString "=01") ∨ v = V.str (Str.ofString "-: " ++ t0 ++ Str.ofString "=0\n") := by simpa [ys] using hv
          rcases hv with rfl | rfl | rfl | rfl | rfl
          · exact ⟨.int 0, .int 0, by rw [PyData.weight]; decide, fun t e => nomatch e⟩
          · refine ⟨.list [.str text], .lst k30 (.cons (.str _) .nil), ?_, fun t e => nomatch e⟩
            rw [w_list, PyData.weightAll, PyData.weightAll, w_str]
            omega
          · exact .one (by rw [lenZ_add, lenZ_add]; show 3 + t0.length + 3 ≤ _; omega)
          · exact .one (by rw [lenZ_add, lenZ_add]; show 3 + t0.length + 3 ≤ _; omega)
          · exact .one (by rw [lenZ_add, lenZ_add]; show 3 + t0.length + 3 ≤ _; omega)
        clear k30 h9 s31
        clear_value ys
        refine ⟨q9, rfl, ⟨_, SqL.of k31⟩, ?_⟩
        refine for_it (walk_list (K := K) (a := q9) (xs := ys)) (fun j σ H' => ∃ v12 : Option V, σ = [some (.ref l), some (.int (0 + (i : Int))), some (.ref p), some (.ref a), some (.ref f), some (.ref e), some (.str text), some (.str plain), some (.str b1), some (.str many), some (.str long), some (.ref q5), v12] ∧ QB.Ext (Tof X) H31 H')
          ⟨_, rfl, .refl⟩ (fun j σ H' _ ⟨_, _, x⟩ => x.sqL (SqL.of k31)) ?_ ?_
        · rintro j x σ H32 H33 hj ⟨v12', rfl, e32⟩ ⟨rfl, hx⟩
          obtain ⟨dy, y1, y2, y3⟩ := (hys x (List.mem_of_getElem? hx)).ext e32
          have cu := cu.exT e32
          refine ⟨_, rfl, _, rfl, .ref a, x, .list ((t0 :: tr).map .str), dy, rfl, tags_dv cu.wa, y1, by have := tags_weight to; omega, y2, cu.ext.2 tb, fun p1 H29 e29 t29 rd => ?_⟩
          refine ⟨_, rfl, _, rfl, a, x, t0 :: tr, dy, rfl, e29.word cu.wa, to, y1.ext e29, y2, y3, t29, fun p2 H30 e30 t30 d2 => ?_⟩
          refine told_due to y2 ((rd.due to).ext e30) d2 ?_
          refine ⟨_, rfl, iteF ?_⟩
          exact ⟨_, rfl, e32.trans (e29.trans e30)⟩
        · rintro σ H32 ⟨v12', rfl, e32⟩
          exact ⟨_, _, _, _, _, _, _, _, _, _, _, _, rfl, cu.ext.trans e32⟩
    · rintro σ H1 ⟨v1, v2, v3, v4, v5, v6, v7, v8, v9, v10, v11, v12, rfl, e1⟩
      exact k H1
end
end Law
end

section
set_option Elab.async false
set_option linter.all false
set_option maxRecDepth 100000
set_option maxHeartbeats 0
namespace Law
open PySem PySem.Spec PyProof.Rows L2 LamX QB QM
def dds : List He.DefD := [⟨("_wall", none), "_wall", "_wall", defArgs s__wall, defBody s__wall, defScope s__wall, [], []⟩,
  ⟨("is_number", none), "is_number", "is_number", defArgs s_is_number, defBody s_is_number, defScope s_is_number, [], []⟩,
  ⟨("is_list", none), "is_list", "is_list", defArgs s_is_list, defBody s_is_list, defScope s_is_list, [], []⟩,
  ⟨("is_name", none), "is_name", "is_name", defArgs s_is_name, defBody s_is_name, defScope s_is_name, [], []⟩,
  ⟨("is_tag", none), "is_tag", "is_tag", defArgs s_is_tag, defBody s_is_tag, defScope s_is_tag, [], []⟩,
  ⟨("is_subject", none), "is_subject", "is_subject", defArgs s_is_subject, defBody s_is_subject, defScope s_is_subject, [], []⟩,
  ⟨("is_standing", none), "is_standing", "is_standing", defArgs s_is_standing, defBody s_is_standing, defScope s_is_standing, [], []⟩,
  ⟨("check_tags", none), "check_tags", "check_tags", defArgs s_check_tags, defBody s_check_tags, defScope s_check_tags, [], []⟩,
  ⟨("check_word", none), "check_word", "check_word", defArgs s_check_word, defBody s_check_word, defScope s_check_word, [], []⟩,
  ⟨("check_standings", none), "check_standings", "check_standings", defArgs s_check_standings, defBody s_check_standings, defScope s_check_standings, [], []⟩,
  ⟨("no_ways", none), "no_ways", "no_ways", defArgs s_no_ways, defBody s_no_ways, defScope s_no_ways, [], []⟩,
  ⟨("walked", none), "walked", "walked", defArgs s_walked, defBody s_walked, defScope s_walked, [], []⟩,
  ⟨("made", none), "made", "made", defArgs s_made, defBody s_made, defScope s_made, [], []⟩,
  ⟨("is_settled_at", none), "is_settled_at", "is_settled_at", defArgs s_is_settled_at, defBody s_is_settled_at, defScope s_is_settled_at, [], []⟩,
  ⟨("is_made_at", none), "is_made_at", "is_made_at", defArgs s_is_made_at, defBody s_is_made_at, defScope s_is_made_at, [], []⟩,
  ⟨("copied", none), "copied", "copied", defArgs s_copied, defBody s_copied, defScope s_copied, [], []⟩,
  ⟨("without_needless_ways", none), "without_needless_ways", "without_needless_ways", defArgs s_without_needless_ways, defBody s_without_needless_ways, defScope s_without_needless_ways, [], []⟩,
  ⟨("numbered", none), "numbered", "numbered", defArgs s_numbered, defBody s_numbered, defScope s_numbered, [], []⟩,
  ⟨("parted", none), "parted", "parted", defArgs s_parted, defBody s_parted, defScope s_parted, [], []⟩,
  ⟨("alike_classes", none), "alike_classes", "alike_classes", defArgs s_alike_classes, defBody s_alike_classes, defScope s_alike_classes, [], []⟩,
  ⟨("in_order_met", none), "in_order_met", "in_order_met", defArgs s_in_order_met, defBody s_in_order_met, defScope s_in_order_met, [], []⟩,
  ⟨("least_form", none), "least_form", "least_form", defArgs s_least_form, defBody s_least_form, defScope s_least_form, [], []⟩,
  ⟨("written", none), "written", "written", defArgs s_written, defBody s_written, defScope s_written, [], []⟩,
  ⟨("read_word", none), "read_word", "read_word", defArgs s_read_word, defBody s_read_word, defScope s_read_word, [], []⟩,
  ⟨("is_numeral", none), "is_numeral", "is_numeral", defArgs s_is_numeral, defBody s_is_numeral, defScope s_is_numeral, [], []⟩,
  ⟨("read_way", none), "read_way", "read_way", defArgs s_read_way, defBody s_read_way, defScope s_read_way, [], []⟩,
  ⟨("read_ways", none), "read_ways", "read_ways", defArgs s_read_ways, defBody s_read_ways, defScope s_read_ways, [], []⟩,
  ⟨("read_line", none), "read_line", "read_line", defArgs s_read_line, defBody s_read_line, defScope s_read_line, [], []⟩,
  ⟨("ways_among", none), "ways_among", "ways_among", defArgs s_ways_among, defBody s_ways_among, defScope s_ways_among, [], []⟩,
  ⟨("eater_text", none), "eater_text", "eater_text", defArgs s_eater_text, defBody s_eater_text, defScope s_eater_text, [], []⟩,
  ⟨("read_eater", none), "read_eater", "read_eater", defArgs s_read_eater, defBody s_read_eater, defScope s_read_eater, [], []⟩,
  ⟨("_law_mixed", none), "_law_mixed", "_law_mixed", defArgs s__law_mixed, defBody s__law_mixed, defScope s__law_mixed, [], []⟩,
  ⟨("_law_pile", none), "_law_pile", "_law_pile", defArgs s__law_pile, defBody s__law_pile, defScope s__law_pile, [], []⟩,
  ⟨("_law_take", none), "_law_take", "_law_take", defArgs s__law_take, defBody s__law_take, defScope s__law_take, [], []⟩,
  ⟨("_law_order", none), "_law_order", "_law_order", defArgs s__law_order, defBody s__law_order, defScope s__law_order, [], []⟩,
  ⟨("_law_tags", none), "_law_tags", "_law_tags", defArgs s__law_tags, defBody s__law_tags, defScope s__law_tags, [], []⟩,
  ⟨("_law_word", none), "_law_word", "_law_word", defArgs s__law_word, defBody s__law_word, defScope s__law_word, [], []⟩,
  ⟨("_law_standings", none), "_law_standings", "_law_standings", defArgs s__law_standings, defBody s__law_standings, defScope s__law_standings, [], []⟩,
  ⟨("_law_eaten", none), "_law_eaten", "_law_eaten", defArgs s__law_eaten, defBody s__law_eaten, defScope s__law_eaten, [], []⟩,
  ⟨("_law_row_done", none), "_law_row_done", "_law_row_done", defArgs s__law_row_done, defBody s__law_row_done, defScope s__law_row_done, [], []⟩,
  ⟨("_law_written", none), "_law_written", "_law_written", defArgs s__law_written, defBody s__law_written, defScope s__law_written, [], []⟩,
  ⟨("_law_number", none), "_law_number", "_law_number", defArgs s__law_number, defBody s__law_number, defScope s__law_number, [], []⟩,
  ⟨("_law_word_of", none), "_law_word_of", "_law_word_of", defArgs s__law_word_of, defBody s__law_word_of, defScope s__law_word_of, [], []⟩,
  ⟨("_law_line_of", none), "_law_line_of", "_law_line_of", defArgs s__law_line_of, defBody s__law_line_of, defScope s__law_line_of, [], []⟩,
  ⟨("_law_due", none), "_law_due", "_law_due", defArgs s__law_due, defBody s__law_due, defScope s__law_due, [], []⟩,
  ⟨("_law_told", none), "_law_told", "_law_told", defArgs s__law_told, defBody s__law_told, defScope s__law_told, [], []⟩,
  ⟨("_law_bent", none), "_law_bent", "_law_bent", defArgs s__law_bent, defBody s__law_bent, defScope s__law_bent, [], []⟩,
  ⟨("_law_great_right", none), "_law_great_right", "_law_great_right", defArgs s__law_great_right, defBody s__law_great_right, defScope s__law_great_right, [], []⟩,
  ⟨("_law_tags_right", none), "_law_tags_right", "_law_tags_right", defArgs s__law_tags_right, defBody s__law_tags_right, defScope s__law_tags_right, [], []⟩,
  ⟨("law", none), "law", "law", defArgs s_law, defBody s_law, defScope s_law, [], []⟩,
  ⟨("InvalidTags", some "__init__"), "__init__", "InvalidTags.__init__", defArgs s_InvalidTags___init__, defBody s_InvalidTags___init__, defScope s_InvalidTags___init__, [], []⟩,
  ⟨("InvalidSubject", some "__init__"), "__init__", "InvalidSubject.__init__", defArgs s_InvalidSubject___init__, defBody s_InvalidSubject___init__, defScope s_InvalidSubject___init__, [], []⟩,
  ⟨("InvalidEater", some "__init__"), "__init__", "InvalidEater.__init__", defArgs s_InvalidEater___init__, defBody s_InvalidEater___init__, defScope s_InvalidEater___init__, [], []⟩,
  ⟨("InvalidText", some "__init__"), "__init__", "InvalidText.__init__", defArgs s_InvalidText___init__, defBody s_InvalidText___init__, defScope s_InvalidText___init__, [], []⟩,
  ⟨("Eater", some "__init__"), "__init__", "Eater.__init__", defArgs s_Eater___init__, defBody s_Eater___init__, defScope s_Eater___init__, [], []⟩,
  ⟨("Eater", some "__len__"), "__len__", "Eater.__len__", defArgs s_Eater___len__, defBody s_Eater___len__, defScope s_Eater___len__, [], []⟩,
  ⟨("Eater", some "__eq__"), "__eq__", "Eater.__eq__", defArgs s_Eater___eq__, defBody s_Eater___eq__, defScope s_Eater___eq__, [], []⟩,
  ⟨("Eater", some "__contains__"), "__contains__", "Eater.__contains__", defArgs s_Eater___contains__, defBody s_Eater___contains__, defScope s_Eater___contains__, [], []⟩,
  ⟨("Eater", some "tags"), "tags", "Eater.tags", defArgs s_Eater_tags, defBody s_Eater_tags, defScope s_Eater_tags, [], []⟩,
  ⟨("Eater", some "standings"), "standings", "Eater.standings", defArgs s_Eater_standings, defBody s_Eater_standings, defScope s_Eater_standings, [], []⟩,
  ⟨("Eater", some "on"), "on", "Eater.on", defArgs s_Eater_on, defBody s_Eater_on, defScope s_Eater_on, [], []⟩,
  ⟨("Eater", some "settled"), "settled", "Eater.settled", defArgs s_Eater_settled, defBody s_Eater_settled, defScope s_Eater_settled, [], []⟩,
  ⟨("Eater", some "then"), "then", "Eater.then", defArgs s_Eater_then, defBody s_Eater_then, defScope s_Eater_then, [], []⟩,
  ⟨("Eater", some "power"), "power", "Eater.power", defArgs s_Eater_power, defBody s_Eater_power, defScope s_Eater_power, [], []⟩]
def fas : List He.Fa := [.free "ValueError", .free "abs", .free "all", .free "any", .free "bool", .free "enumerate", .free "int", .free "isinstance", .free "len", .free "list", .free "max", .free "range", .free "sorted", .free "str", .free "tuple", .free "zip", .str "LETTERS" "abcdefghijklmnopqrstuvwxyz", .int "MOST_LETTERS" 8, .int "MOST_TAGS" 6, .int "MOST_STANDINGS" 30, .int "LONGEST_WORD" 8, .int "LONGEST_SUBJECT" 200, .str "NO_TAGS" "-", .str "DIGITS" "0123456789", .int "MOST_DIGITS" 2, .glo "_wall", .glo "is_number", .glo "is_list", .glo "is_name", .glo "is_tag", .glo "is_subject", .glo "is_standing", .glo "check_tags", .glo "check_word", .glo "check_standings", .glo "no_ways", .glo "walked", .glo "made", .glo "is_settled_at", .glo "is_made_at", .glo "copied", .glo "without_needless_ways", .glo "numbered", .glo "parted", .glo "alike_classes", .glo "in_order_met", .glo "least_form", .glo "written", .glo "read_word", .glo "is_numeral", .glo "read_way", .glo "read_ways", .glo "read_line", .glo "ways_among", .glo "eater_text", .glo "read_eater", .glo "_law_mixed", .glo "_law_pile", .glo "_law_take", .glo "_law_order", .glo "_law_tags", .glo "_law_word", .glo "_law_standings", .glo "_law_eaten", .glo "_law_row_done", .glo "_law_written", .glo "_law_number", .glo "_law_word_of", .glo "_law_line_of", .glo "_law_due", .glo "_law_told", .glo "_law_bent", .glo "_law_great_right", .glo "_law_tags_right", .glo "law", .glo "TagError", .glo "InvalidTags", .glo "InvalidSubject", .glo "InvalidEater", .glo "InvalidText", .glo "Eater", .cls "Eater", .meth "Eater" "__len__", .meth "Eater" "__eq__", .meth "Eater" "__contains__", .meth "Eater" "tags", .meth "Eater" "standings", .meth "Eater" "on", .meth "Eater" "settled", .meth "Eater" "then", .meth "Eater" "power", .mkr "Eater", .noat "Eater" "_standings", .noat "Eater" "_tags"]
def exB (K : PySem.W.Frag) : Bool := QE.ownB K (He.ga K "Eater") && (QX.excTB K (He.ga K "InvalidTags") (He.fAd K ("InvalidTags", some "__init__")) "index" && (QX.excTB K (He.ga K "InvalidSubject") (He.fAd K ("InvalidSubject", some "__init__")) "index" && (QX.excTB K (He.ga K "InvalidEater") (He.fAd K ("InvalidEater", some "__init__")) "index" && (QX.excTB K (He.ga K "InvalidText") (He.fAd K ("InvalidText", some "__init__")) "line" && (QX.exmB K (He.ga K "InvalidTags") (He.ga K "TagError") && (QX.isTB K (He.ga K "InvalidTags") "ValueError" true && (QX.isB K (He.ga K "InvalidTags") (He.ga K "TagError") true && (QX.isB K (He.ga K "InvalidTags") (He.ga K "InvalidTags") true && (QX.isB K (He.ga K "InvalidTags") (He.ga K "InvalidSubject") false && (QX.isB K (He.ga K "InvalidTags") (He.ga K "InvalidEater") false && (QX.isB K (He.ga K "InvalidTags") (He.ga K "InvalidText") false && (QX.exmB K (He.ga K "InvalidSubject") (He.ga K "TagError") && (QX.isTB K (He.ga K "InvalidSubject") "ValueError" true && (QX.isB K (He.ga K "InvalidSubject") (He.ga K "TagError") true && (QX.isB K (He.ga K "InvalidSubject") (He.ga K "InvalidTags") false && (QX.isB K (He.ga K "InvalidSubject") (He.ga K "InvalidSubject") true && (QX.isB K (He.ga K "InvalidSubject") (He.ga K "InvalidEater") false && (QX.isB K (He.ga K "InvalidSubject") (He.ga K "InvalidText") false && (QX.exmB K (He.ga K "InvalidEater") (He.ga K "TagError") && (QX.isTB K (He.ga K "InvalidEater") "ValueError" true && (QX.isB K (He.ga K "InvalidEater") (He.ga K "TagError") true && (QX.isB K (He.ga K "InvalidEater") (He.ga K "InvalidTags") false && (QX.isB K (He.ga K "InvalidEater") (He.ga K "InvalidSubject") false && (QX.isB K (He.ga K "InvalidEater") (He.ga K "InvalidEater") true && (QX.isB K (He.ga K "InvalidEater") (He.ga K "InvalidText") false && (QX.exmB K (He.ga K "InvalidText") (He.ga K "TagError") && (QX.isTB K (He.ga K "InvalidText") "ValueError" true && (QX.isB K (He.ga K "InvalidText") (He.ga K "TagError") true && (QX.isB K (He.ga K "InvalidText") (He.ga K "InvalidTags") false && (QX.isB K (He.ga K "InvalidText") (He.ga K "InvalidSubject") false && (QX.isB K (He.ga K "InvalidText") (He.ga K "InvalidEater") false && (QX.isB K (He.ga K "InvalidText") (He.ga K "InvalidText") true))))))))))))))))))))))))))))))))
theorem tx_mk {K : PySem.W.Frag} {h : Heap} {mg : Str → Option Value} (X0 : K.In h) (G : h.Ns mainGlobals mg) (c : He.SaysD fas dds K) (ce : exB K = true) : ∃ X : TX K mg, X.lam_c = He.codeOf K ("without_needless_ways", none) ∧ X.lam_P = He.tabOf K (He.codeOf K ("without_needless_ways", none)) ∧ X.d_law.a = He.ga K "law" := by
  obtain ⟨fd0, F0⟩ := c.def_ 0 (d := ⟨("_wall", none), "_wall", "_wall", defArgs s__wall, defBody s__wall, defScope s__wall, [], []⟩) rfl
  have F0 : L2.Fun K "_wall" "_wall" s__wall (He.fAd K ("_wall", none)) fd0 := QE.funD_fun F0
  obtain ⟨fd1, F1⟩ := c.def_ 1 (d := ⟨("is_number", none), "is_number", "is_number", defArgs s_is_number, defBody s_is_number, defScope s_is_number, [], []⟩) rfl
  have F1 : L2.Fun K "is_number" "is_number" s_is_number (He.fAd K ("is_number", none)) fd1 := QE.funD_fun F1
  obtain ⟨fd2, F2⟩ := c.def_ 2 (d := ⟨("is_list", none), "is_list", "is_list", defArgs s_is_list, defBody s_is_list, defScope s_is_list, [], []⟩) rfl
  have F2 : L2.Fun K "is_list" "is_list" s_is_list (He.fAd K ("is_list", none)) fd2 := QE.funD_fun F2
  obtain ⟨fd3, F3⟩ := c.def_ 3 (d := ⟨("is_name", none), "is_name", "is_name", defArgs s_is_name, defBody s_is_name, defScope s_is_name, [], []⟩) rfl
  have F3 : L2.Fun K "is_name" "is_name" s_is_name (He.fAd K ("is_name", none)) fd3 := QE.funD_fun F3
  obtain ⟨fd4, F4⟩ := c.def_ 4 (d := ⟨("is_tag", none), "is_tag", "is_tag", defArgs s_is_tag, defBody s_is_tag, defScope s_is_tag, [], []⟩) rfl
  have F4 : L2.Fun K "is_tag" "is_tag" s_is_tag (He.fAd K ("is_tag", none)) fd4 := QE.funD_fun F4
  obtain ⟨fd5, F5⟩ := c.def_ 5 (d := ⟨("is_subject", none), "is_subject", "is_subject", defArgs s_is_subject, defBody s_is_subject, defScope s_is_subject, [], []⟩) rfl
  have F5 : L2.Fun K "is_subject" "is_subject" s_is_subject (He.fAd K ("is_subject", none)) fd5 := QE.funD_fun F5
  obtain ⟨fd6, F6⟩ := c.def_ 6 (d := ⟨("is_standing", none), "is_standing", "is_standing", defArgs s_is_standing, defBody s_is_standing, defScope s_is_standing, [], []⟩) rfl
  have F6 : L2.Fun K "is_standing" "is_standing" s_is_standing (He.fAd K ("is_standing", none)) fd6 := QE.funD_fun F6
  obtain ⟨fd7, F7⟩ := c.def_ 7 (d := ⟨("check_tags", none), "check_tags", "check_tags", defArgs s_check_tags, defBody s_check_tags, defScope s_check_tags, [], []⟩) rfl
  have F7 : L2.Fun K "check_tags" "check_tags" s_check_tags (He.fAd K ("check_tags", none)) fd7 := QE.funD_fun F7
  obtain ⟨fd8, F8⟩ := c.def_ 8 (d := ⟨("check_word", none), "check_word", "check_word", defArgs s_check_word, defBody s_check_word, defScope s_check_word, [], []⟩) rfl
  have F8 : L2.Fun K "check_word" "check_word" s_check_word (He.fAd K ("check_word", none)) fd8 := QE.funD_fun F8
  obtain ⟨fd9, F9⟩ := c.def_ 9 (d := ⟨("check_standings", none), "check_standings", "check_standings", defArgs s_check_standings, defBody s_check_standings, defScope s_check_standings, [], []⟩) rfl
  have F9 : L2.Fun K "check_standings" "check_standings" s_check_standings (He.fAd K ("check_standings", none)) fd9 := QE.funD_fun F9
  obtain ⟨fd10, F10⟩ := c.def_ 10 (d := ⟨("no_ways", none), "no_ways", "no_ways", defArgs s_no_ways, defBody s_no_ways, defScope s_no_ways, [], []⟩) rfl
  have F10 : L2.Fun K "no_ways" "no_ways" s_no_ways (He.fAd K ("no_ways", none)) fd10 := QE.funD_fun F10
  obtain ⟨fd11, F11⟩ := c.def_ 11 (d := ⟨("walked", none), "walked", "walked", defArgs s_walked, defBody s_walked, defScope s_walked, [], []⟩) rfl
  have F11 : L2.Fun K "walked" "walked" s_walked (He.fAd K ("walked", none)) fd11 := QE.funD_fun F11
  obtain ⟨fd12, F12⟩ := c.def_ 12 (d := ⟨("made", none), "made", "made", defArgs s_made, defBody s_made, defScope s_made, [], []⟩) rfl
  have F12 : L2.Fun K "made" "made" s_made (He.fAd K ("made", none)) fd12 := QE.funD_fun F12
  obtain ⟨fd13, F13⟩ := c.def_ 13 (d := ⟨("is_settled_at", none), "is_settled_at", "is_settled_at", defArgs s_is_settled_at, defBody s_is_settled_at, defScope s_is_settled_at, [], []⟩) rfl
  have F13 : L2.Fun K "is_settled_at" "is_settled_at" s_is_settled_at (He.fAd K ("is_settled_at", none)) fd13 := QE.funD_fun F13
  obtain ⟨fd14, F14⟩ := c.def_ 14 (d := ⟨("is_made_at", none), "is_made_at", "is_made_at", defArgs s_is_made_at, defBody s_is_made_at, defScope s_is_made_at, [], []⟩) rfl
  have F14 : L2.Fun K "is_made_at" "is_made_at" s_is_made_at (He.fAd K ("is_made_at", none)) fd14 := QE.funD_fun F14
  obtain ⟨fd15, F15⟩ := c.def_ 15 (d := ⟨("copied", none), "copied", "copied", defArgs s_copied, defBody s_copied, defScope s_copied, [], []⟩) rfl
  have F15 : L2.Fun K "copied" "copied" s_copied (He.fAd K ("copied", none)) fd15 := QE.funD_fun F15
  obtain ⟨fd16, F16⟩ := c.def_ 16 (d := ⟨("without_needless_ways", none), "without_needless_ways", "without_needless_ways", defArgs s_without_needless_ways, defBody s_without_needless_ways, defScope s_without_needless_ways, [], []⟩) rfl
  have G16 : QB.FunC K "without_needless_ways" "without_needless_ways" s_without_needless_ways (He.fAd K ("without_needless_ways", none)) fd16 (He.codeOf K ("without_needless_ways", none)) := QE.funC_of F16
  have F16 : L2.Fun K "without_needless_ways" "without_needless_ways" s_without_needless_ways (He.fAd K ("without_needless_ways", none)) fd16 := QE.funD_fun F16
  obtain ⟨fd17, F17⟩ := c.def_ 17 (d := ⟨("numbered", none), "numbered", "numbered", defArgs s_numbered, defBody s_numbered, defScope s_numbered, [], []⟩) rfl
  have F17 : L2.Fun K "numbered" "numbered" s_numbered (He.fAd K ("numbered", none)) fd17 := QE.funD_fun F17
  obtain ⟨fd18, F18⟩ := c.def_ 18 (d := ⟨("parted", none), "parted", "parted", defArgs s_parted, defBody s_parted, defScope s_parted, [], []⟩) rfl
  have F18 : L2.Fun K "parted" "parted" s_parted (He.fAd K ("parted", none)) fd18 := QE.funD_fun F18
  obtain ⟨fd19, F19⟩ := c.def_ 19 (d := ⟨("alike_classes", none), "alike_classes", "alike_classes", defArgs s_alike_classes, defBody s_alike_classes, defScope s_alike_classes, [], []⟩) rfl
  have F19 : L2.Fun K "alike_classes" "alike_classes" s_alike_classes (He.fAd K ("alike_classes", none)) fd19 := QE.funD_fun F19
  obtain ⟨fd20, F20⟩ := c.def_ 20 (d := ⟨("in_order_met", none), "in_order_met", "in_order_met", defArgs s_in_order_met, defBody s_in_order_met, defScope s_in_order_met, [], []⟩) rfl
  have F20 : L2.Fun K "in_order_met" "in_order_met" s_in_order_met (He.fAd K ("in_order_met", none)) fd20 := QE.funD_fun F20
  obtain ⟨fd21, F21⟩ := c.def_ 21 (d := ⟨("least_form", none), "least_form", "least_form", defArgs s_least_form, defBody s_least_form, defScope s_least_form, [], []⟩) rfl
  have F21 : L2.Fun K "least_form" "least_form" s_least_form (He.fAd K ("least_form", none)) fd21 := QE.funD_fun F21
  obtain ⟨fd22, F22⟩ := c.def_ 22 (d := ⟨("written", none), "written", "written", defArgs s_written, defBody s_written, defScope s_written, [], []⟩) rfl
  have F22 : L2.Fun K "written" "written" s_written (He.fAd K ("written", none)) fd22 := QE.funD_fun F22
  obtain ⟨fd23, F23⟩ := c.def_ 23 (d := ⟨("read_word", none), "read_word", "read_word", defArgs s_read_word, defBody s_read_word, defScope s_read_word, [], []⟩) rfl
  have F23 : L2.Fun K "read_word" "read_word" s_read_word (He.fAd K ("read_word", none)) fd23 := QE.funD_fun F23
  obtain ⟨fd24, F24⟩ := c.def_ 24 (d := ⟨("is_numeral", none), "is_numeral", "is_numeral", defArgs s_is_numeral, defBody s_is_numeral, defScope s_is_numeral, [], []⟩) rfl
  have F24 : L2.Fun K "is_numeral" "is_numeral" s_is_numeral (He.fAd K ("is_numeral", none)) fd24 := QE.funD_fun F24
  obtain ⟨fd25, F25⟩ := c.def_ 25 (d := ⟨("read_way", none), "read_way", "read_way", defArgs s_read_way, defBody s_read_way, defScope s_read_way, [], []⟩) rfl
  have F25 : L2.Fun K "read_way" "read_way" s_read_way (He.fAd K ("read_way", none)) fd25 := QE.funD_fun F25
  obtain ⟨fd26, F26⟩ := c.def_ 26 (d := ⟨("read_ways", none), "read_ways", "read_ways", defArgs s_read_ways, defBody s_read_ways, defScope s_read_ways, [], []⟩) rfl
  have F26 : L2.Fun K "read_ways" "read_ways" s_read_ways (He.fAd K ("read_ways", none)) fd26 := QE.funD_fun F26
  obtain ⟨fd27, F27⟩ := c.def_ 27 (d := ⟨("read_line", none), "read_line", "read_line", defArgs s_read_line, defBody s_read_line, defScope s_read_line, [], []⟩) rfl
  have F27 : L2.Fun K "read_line" "read_line" s_read_line (He.fAd K ("read_line", none)) fd27 := QE.funD_fun F27
  obtain ⟨fd28, F28⟩ := c.def_ 28 (d := ⟨("ways_among", none), "ways_among", "ways_among", defArgs s_ways_among, defBody s_ways_among, defScope s_ways_among, [], []⟩) rfl
  have F28 : L2.Fun K "ways_among" "ways_among" s_ways_among (He.fAd K ("ways_among", none)) fd28 := QE.funD_fun F28
  obtain ⟨fd29, F29⟩ := c.def_ 29 (d := ⟨("eater_text", none), "eater_text", "eater_text", defArgs s_eater_text, defBody s_eater_text, defScope s_eater_text, [], []⟩) rfl
  have F29 : L2.Fun K "eater_text" "eater_text" s_eater_text (He.fAd K ("eater_text", none)) fd29 := QE.funD_fun F29
  obtain ⟨fd30, F30⟩ := c.def_ 30 (d := ⟨("read_eater", none), "read_eater", "read_eater", defArgs s_read_eater, defBody s_read_eater, defScope s_read_eater, [], []⟩) rfl
  have F30 : L2.Fun K "read_eater" "read_eater" s_read_eater (He.fAd K ("read_eater", none)) fd30 := QE.funD_fun F30
  obtain ⟨fd31, F31⟩ := c.def_ 31 (d := ⟨("_law_mixed", none), "_law_mixed", "_law_mixed", defArgs s__law_mixed, defBody s__law_mixed, defScope s__law_mixed, [], []⟩) rfl
  have F31 : L2.Fun K "_law_mixed" "_law_mixed" s__law_mixed (He.fAd K ("_law_mixed", none)) fd31 := QE.funD_fun F31
  obtain ⟨fd32, F32⟩ := c.def_ 32 (d := ⟨("_law_pile", none), "_law_pile", "_law_pile", defArgs s__law_pile, defBody s__law_pile, defScope s__law_pile, [], []⟩) rfl
  have F32 : L2.Fun K "_law_pile" "_law_pile" s__law_pile (He.fAd K ("_law_pile", none)) fd32 := QE.funD_fun F32
  obtain ⟨fd33, F33⟩ := c.def_ 33 (d := ⟨("_law_take", none), "_law_take", "_law_take", defArgs s__law_take, defBody s__law_take, defScope s__law_take, [], []⟩) rfl
  have F33 : L2.Fun K "_law_take" "_law_take" s__law_take (He.fAd K ("_law_take", none)) fd33 := QE.funD_fun F33
  obtain ⟨fd34, F34⟩ := c.def_ 34 (d := ⟨("_law_order", none), "_law_order", "_law_order", defArgs s__law_order, defBody s__law_order, defScope s__law_order, [], []⟩) rfl
  have F34 : L2.Fun K "_law_order" "_law_order" s__law_order (He.fAd K ("_law_order", none)) fd34 := QE.funD_fun F34
  obtain ⟨fd35, F35⟩ := c.def_ 35 (d := ⟨("_law_tags", none), "_law_tags", "_law_tags", defArgs s__law_tags, defBody s__law_tags, defScope s__law_tags, [], []⟩) rfl
  have F35 : L2.Fun K "_law_tags" "_law_tags" s__law_tags (He.fAd K ("_law_tags", none)) fd35 := QE.funD_fun F35
  obtain ⟨fd36, F36⟩ := c.def_ 36 (d := ⟨("_law_word", none), "_law_word", "_law_word", defArgs s__law_word, defBody s__law_word, defScope s__law_word, [], []⟩) rfl
  have F36 : L2.Fun K "_law_word" "_law_word" s__law_word (He.fAd K ("_law_word", none)) fd36 := QE.funD_fun F36
  obtain ⟨fd37, F37⟩ := c.def_ 37 (d := ⟨("_law_standings", none), "_law_standings", "_law_standings", defArgs s__law_standings, defBody s__law_standings, defScope s__law_standings, [], []⟩) rfl
  have F37 : L2.Fun K "_law_standings" "_law_standings" s__law_standings (He.fAd K ("_law_standings", none)) fd37 := QE.funD_fun F37
  obtain ⟨fd38, F38⟩ := c.def_ 38 (d := ⟨("_law_eaten", none), "_law_eaten", "_law_eaten", defArgs s__law_eaten, defBody s__law_eaten, defScope s__law_eaten, [], []⟩) rfl
  have F38 : L2.Fun K "_law_eaten" "_law_eaten" s__law_eaten (He.fAd K ("_law_eaten", none)) fd38 := QE.funD_fun F38
  obtain ⟨fd39, F39⟩ := c.def_ 39 (d := ⟨("_law_row_done", none), "_law_row_done", "_law_row_done", defArgs s__law_row_done, defBody s__law_row_done, defScope s__law_row_done, [], []⟩) rfl
  have F39 : L2.Fun K "_law_row_done" "_law_row_done" s__law_row_done (He.fAd K ("_law_row_done", none)) fd39 := QE.funD_fun F39
  obtain ⟨fd40, F40⟩ := c.def_ 40 (d := ⟨("_law_written", none), "_law_written", "_law_written", defArgs s__law_written, defBody s__law_written, defScope s__law_written, [], []⟩) rfl
  have F40 : L2.Fun K "_law_written" "_law_written" s__law_written (He.fAd K ("_law_written", none)) fd40 := QE.funD_fun F40
  obtain ⟨fd41, F41⟩ := c.def_ 41 (d := ⟨("_law_number", none), "_law_number", "_law_number", defArgs s__law_number, defBody s__law_number, defScope s__law_number, [], []⟩) rfl
  have F41 : L2.Fun K "_law_number" "_law_number" s__law_number (He.fAd K ("_law_number", none)) fd41 := QE.funD_fun F41
  obtain ⟨fd42, F42⟩ := c.def_ 42 (d := ⟨("_law_word_of", none), "_law_word_of", "_law_word_of", defArgs s__law_word_of, defBody s__law_word_of, defScope s__law_word_of, [], []⟩) rfl
  have F42 : L2.Fun K "_law_word_of" "_law_word_of" s__law_word_of (He.fAd K ("_law_word_of", none)) fd42 := QE.funD_fun F42
  obtain ⟨fd43, F43⟩ := c.def_ 43 (d := ⟨("_law_line_of", none), "_law_line_of", "_law_line_of", defArgs s__law_line_of, defBody s__law_line_of, defScope s__law_line_of, [], []⟩) rfl
  have F43 : L2.Fun K "_law_line_of" "_law_line_of" s__law_line_of (He.fAd K ("_law_line_of", none)) fd43 := QE.funD_fun F43
  obtain ⟨fd44, F44⟩ := c.def_ 44 (d := ⟨("_law_due", none), "_law_due", "_law_due", defArgs s__law_due, defBody s__law_due, defScope s__law_due, [], []⟩) rfl
  have F44 : L2.Fun K "_law_due" "_law_due" s__law_due (He.fAd K ("_law_due", none)) fd44 := QE.funD_fun F44
  obtain ⟨fd45, F45⟩ := c.def_ 45 (d := ⟨("_law_told", none), "_law_told", "_law_told", defArgs s__law_told, defBody s__law_told, defScope s__law_told, [], []⟩) rfl
  have F45 : L2.Fun K "_law_told" "_law_told" s__law_told (He.fAd K ("_law_told", none)) fd45 := QE.funD_fun F45
  obtain ⟨fd46, F46⟩ := c.def_ 46 (d := ⟨("_law_bent", none), "_law_bent", "_law_bent", defArgs s__law_bent, defBody s__law_bent, defScope s__law_bent, [], []⟩) rfl
  have F46 : L2.Fun K "_law_bent" "_law_bent" s__law_bent (He.fAd K ("_law_bent", none)) fd46 := QE.funD_fun F46
  obtain ⟨fd47, F47⟩ := c.def_ 47 (d := ⟨("_law_great_right", none), "_law_great_right", "_law_great_right", defArgs s__law_great_right, defBody s__law_great_right, defScope s__law_great_right, [], []⟩) rfl
  have F47 : L2.Fun K "_law_great_right" "_law_great_right" s__law_great_right (He.fAd K ("_law_great_right", none)) fd47 := QE.funD_fun F47
  obtain ⟨fd48, F48⟩ := c.def_ 48 (d := ⟨("_law_tags_right", none), "_law_tags_right", "_law_tags_right", defArgs s__law_tags_right, defBody s__law_tags_right, defScope s__law_tags_right, [], []⟩) rfl
  have F48 : L2.Fun K "_law_tags_right" "_law_tags_right" s__law_tags_right (He.fAd K ("_law_tags_right", none)) fd48 := QE.funD_fun F48
  obtain ⟨fd49, F49⟩ := c.def_ 49 (d := ⟨("law", none), "law", "law", defArgs s_law, defBody s_law, defScope s_law, [], []⟩) rfl
  have F49 : L2.Fun K "law" "law" s_law (He.fAd K ("law", none)) fd49 := QE.funD_fun F49
  obtain ⟨fd50, F50⟩ := c.def_ 50 (d := ⟨("InvalidTags", some "__init__"), "__init__", "InvalidTags.__init__", defArgs s_InvalidTags___init__, defBody s_InvalidTags___init__, defScope s_InvalidTags___init__, [], []⟩) rfl
  have F50 : L2.Fun K "__init__" "InvalidTags.__init__" s_InvalidTags___init__ (He.fAd K ("InvalidTags", some "__init__")) fd50 := QE.funD_fun F50
  obtain ⟨fd51, F51⟩ := c.def_ 51 (d := ⟨("InvalidSubject", some "__init__"), "__init__", "InvalidSubject.__init__", defArgs s_InvalidSubject___init__, defBody s_InvalidSubject___init__, defScope s_InvalidSubject___init__, [], []⟩) rfl
  have F51 : L2.Fun K "__init__" "InvalidSubject.__init__" s_InvalidSubject___init__ (He.fAd K ("InvalidSubject", some "__init__")) fd51 := QE.funD_fun F51
  obtain ⟨fd52, F52⟩ := c.def_ 52 (d := ⟨("InvalidEater", some "__init__"), "__init__", "InvalidEater.__init__", defArgs s_InvalidEater___init__, defBody s_InvalidEater___init__, defScope s_InvalidEater___init__, [], []⟩) rfl
  have F52 : L2.Fun K "__init__" "InvalidEater.__init__" s_InvalidEater___init__ (He.fAd K ("InvalidEater", some "__init__")) fd52 := QE.funD_fun F52
  obtain ⟨fd53, F53⟩ := c.def_ 53 (d := ⟨("InvalidText", some "__init__"), "__init__", "InvalidText.__init__", defArgs s_InvalidText___init__, defBody s_InvalidText___init__, defScope s_InvalidText___init__, [], []⟩) rfl
  have F53 : L2.Fun K "__init__" "InvalidText.__init__" s_InvalidText___init__ (He.fAd K ("InvalidText", some "__init__")) fd53 := QE.funD_fun F53
  obtain ⟨fd54, F54⟩ := c.def_ 54 (d := ⟨("Eater", some "__init__"), "__init__", "Eater.__init__", defArgs s_Eater___init__, defBody s_Eater___init__, defScope s_Eater___init__, [], []⟩) rfl
  have F54 : L2.Fun K "__init__" "Eater.__init__" s_Eater___init__ (He.fAd K ("Eater", some "__init__")) fd54 := QE.funD_fun F54
  obtain ⟨fd55, F55⟩ := c.def_ 55 (d := ⟨("Eater", some "__len__"), "__len__", "Eater.__len__", defArgs s_Eater___len__, defBody s_Eater___len__, defScope s_Eater___len__, [], []⟩) rfl
  have F55 : L2.Fun K "__len__" "Eater.__len__" s_Eater___len__ (He.fAd K ("Eater", some "__len__")) fd55 := QE.funD_fun F55
  obtain ⟨fd56, F56⟩ := c.def_ 56 (d := ⟨("Eater", some "__eq__"), "__eq__", "Eater.__eq__", defArgs s_Eater___eq__, defBody s_Eater___eq__, defScope s_Eater___eq__, [], []⟩) rfl
  have F56 : L2.Fun K "__eq__" "Eater.__eq__" s_Eater___eq__ (He.fAd K ("Eater", some "__eq__")) fd56 := QE.funD_fun F56
  obtain ⟨fd57, F57⟩ := c.def_ 57 (d := ⟨("Eater", some "__contains__"), "__contains__", "Eater.__contains__", defArgs s_Eater___contains__, defBody s_Eater___contains__, defScope s_Eater___contains__, [], []⟩) rfl
  have F57 : L2.Fun K "__contains__" "Eater.__contains__" s_Eater___contains__ (He.fAd K ("Eater", some "__contains__")) fd57 := QE.funD_fun F57
  obtain ⟨fd58, F58⟩ := c.def_ 58 (d := ⟨("Eater", some "tags"), "tags", "Eater.tags", defArgs s_Eater_tags, defBody s_Eater_tags, defScope s_Eater_tags, [], []⟩) rfl
  have F58 : L2.Fun K "tags" "Eater.tags" s_Eater_tags (He.fAd K ("Eater", some "tags")) fd58 := QE.funD_fun F58
  obtain ⟨fd59, F59⟩ := c.def_ 59 (d := ⟨("Eater", some "standings"), "standings", "Eater.standings", defArgs s_Eater_standings, defBody s_Eater_standings, defScope s_Eater_standings, [], []⟩) rfl
  have F59 : L2.Fun K "standings" "Eater.standings" s_Eater_standings (He.fAd K ("Eater", some "standings")) fd59 := QE.funD_fun F59
  obtain ⟨fd60, F60⟩ := c.def_ 60 (d := ⟨("Eater", some "on"), "on", "Eater.on", defArgs s_Eater_on, defBody s_Eater_on, defScope s_Eater_on, [], []⟩) rfl
  have F60 : L2.Fun K "on" "Eater.on" s_Eater_on (He.fAd K ("Eater", some "on")) fd60 := QE.funD_fun F60
  obtain ⟨fd61, F61⟩ := c.def_ 61 (d := ⟨("Eater", some "settled"), "settled", "Eater.settled", defArgs s_Eater_settled, defBody s_Eater_settled, defScope s_Eater_settled, [], []⟩) rfl
  have F61 : L2.Fun K "settled" "Eater.settled" s_Eater_settled (He.fAd K ("Eater", some "settled")) fd61 := QE.funD_fun F61
  obtain ⟨fd62, F62⟩ := c.def_ 62 (d := ⟨("Eater", some "then"), "then", "Eater.then", defArgs s_Eater_then, defBody s_Eater_then, defScope s_Eater_then, [], []⟩) rfl
  have F62 : L2.Fun K "then" "Eater.then" s_Eater_then (He.fAd K ("Eater", some "then")) fd62 := QE.funD_fun F62
  obtain ⟨fd63, F63⟩ := c.def_ 63 (d := ⟨("Eater", some "power"), "power", "Eater.power", defArgs s_Eater_power, defBody s_Eater_power, defScope s_Eater_power, [], []⟩) rfl
  have F63 : L2.Fun K "power" "Eater.power" s_Eater_power (He.fAd K ("Eater", some "power")) fd63 := QE.funD_fun F63
  obtain ⟨b_own_Eater, ce⟩ := He.ba ce
  obtain ⟨b_x_InvalidTags, ce⟩ := He.ba ce
  obtain ⟨b_x_InvalidSubject, ce⟩ := He.ba ce
  obtain ⟨b_x_InvalidEater, ce⟩ := He.ba ce
  obtain ⟨b_x_InvalidText, ce⟩ := He.ba ce
  obtain ⟨b_e_InvalidTags, ce⟩ := He.ba ce
  obtain ⟨b_v_InvalidTags, ce⟩ := He.ba ce
  obtain ⟨b_i_InvalidTags_TagError, ce⟩ := He.ba ce
  obtain ⟨b_i_InvalidTags_InvalidTags, ce⟩ := He.ba ce
  obtain ⟨b_i_InvalidTags_InvalidSubject, ce⟩ := He.ba ce
  obtain ⟨b_i_InvalidTags_InvalidEater, ce⟩ := He.ba ce
  obtain ⟨b_i_InvalidTags_InvalidText, ce⟩ := He.ba ce
  obtain ⟨b_e_InvalidSubject, ce⟩ := He.ba ce
  obtain ⟨b_v_InvalidSubject, ce⟩ := He.ba ce
  obtain ⟨b_i_InvalidSubject_TagError, ce⟩ := He.ba ce
  obtain ⟨b_i_InvalidSubject_InvalidTags, ce⟩ := He.ba ce
  obtain ⟨b_i_InvalidSubject_InvalidSubject, ce⟩ := He.ba ce
  obtain ⟨b_i_InvalidSubject_InvalidEater, ce⟩ := He.ba ce
  obtain ⟨b_i_InvalidSubject_InvalidText, ce⟩ := He.ba ce
  obtain ⟨b_e_InvalidEater, ce⟩ := He.ba ce
  obtain ⟨b_v_InvalidEater, ce⟩ := He.ba ce
  obtain ⟨b_i_InvalidEater_TagError, ce⟩ := He.ba ce
  obtain ⟨b_i_InvalidEater_InvalidTags, ce⟩ := He.ba ce
  obtain ⟨b_i_InvalidEater_InvalidSubject, ce⟩ := He.ba ce
  obtain ⟨b_i_InvalidEater_InvalidEater, ce⟩ := He.ba ce
  obtain ⟨b_i_InvalidEater_InvalidText, ce⟩ := He.ba ce
  obtain ⟨b_e_InvalidText, ce⟩ := He.ba ce
  obtain ⟨b_v_InvalidText, ce⟩ := He.ba ce
  obtain ⟨b_i_InvalidText_TagError, ce⟩ := He.ba ce
  obtain ⟨b_i_InvalidText_InvalidTags, ce⟩ := He.ba ce
  obtain ⟨b_i_InvalidText_InvalidSubject, ce⟩ := He.ba ce
  obtain ⟨b_i_InvalidText_InvalidEater, ce⟩ := He.ba ce
  have b_i_InvalidText_InvalidText := ce
  exact ⟨{
    n_ValueError := He.free_ok X0 G (c.fact 0 (f := .free "ValueError") rfl),
    n_abs := He.free_ok X0 G (c.fact 1 (f := .free "abs") rfl),
    n_all := He.free_ok X0 G (c.fact 2 (f := .free "all") rfl),
    n_any := He.free_ok X0 G (c.fact 3 (f := .free "any") rfl),
    n_bool := He.free_ok X0 G (c.fact 4 (f := .free "bool") rfl),
    n_enumerate := He.free_ok X0 G (c.fact 5 (f := .free "enumerate") rfl),
    n_int := He.free_ok X0 G (c.fact 6 (f := .free "int") rfl),
    n_isinstance := He.free_ok X0 G (c.fact 7 (f := .free "isinstance") rfl),
    n_len := He.free_ok X0 G (c.fact 8 (f := .free "len") rfl),
    n_list := He.free_ok X0 G (c.fact 9 (f := .free "list") rfl),
    n_max := He.free_ok X0 G (c.fact 10 (f := .free "max") rfl),
    n_range := He.free_ok X0 G (c.fact 11 (f := .free "range") rfl),
    n_sorted := He.free_ok X0 G (c.fact 12 (f := .free "sorted") rfl),
    n_str := He.free_ok X0 G (c.fact 13 (f := .free "str") rfl),
    n_tuple := He.free_ok X0 G (c.fact 14 (f := .free "tuple") rfl),
    n_zip := He.free_ok X0 G (c.fact 15 (f := .free "zip") rfl),
    c_LETTERS := (let ⟨t, h⟩ := He.str_ok X0 G (c.fact 16 (f := .str "LETTERS" "abcdefghijklmnopqrstuvwxyz") rfl); ⟨_, h, t, rfl⟩),
    c_MOST_LETTERS := (let ⟨t, h⟩ := He.int_ok X0 G (c.fact 17 (f := .int "MOST_LETTERS" 8) rfl); ⟨_, h, t, rfl⟩),
    c_MOST_TAGS := (let ⟨t, h⟩ := He.int_ok X0 G (c.fact 18 (f := .int "MOST_TAGS" 6) rfl); ⟨_, h, t, rfl⟩),
    c_MOST_STANDINGS := (let ⟨t, h⟩ := He.int_ok X0 G (c.fact 19 (f := .int "MOST_STANDINGS" 30) rfl); ⟨_, h, t, rfl⟩),
    c_LONGEST_WORD := (let ⟨t, h⟩ := He.int_ok X0 G (c.fact 20 (f := .int "LONGEST_WORD" 8) rfl); ⟨_, h, t, rfl⟩),
    c_LONGEST_SUBJECT := (let ⟨t, h⟩ := He.int_ok X0 G (c.fact 21 (f := .int "LONGEST_SUBJECT" 200) rfl); ⟨_, h, t, rfl⟩),
    c_NO_TAGS := (let ⟨t, h⟩ := He.str_ok X0 G (c.fact 22 (f := .str "NO_TAGS" "-") rfl); ⟨_, h, t, rfl⟩),
    c_DIGITS := (let ⟨t, h⟩ := He.str_ok X0 G (c.fact 23 (f := .str "DIGITS" "0123456789") rfl); ⟨_, h, t, rfl⟩),
    c_MOST_DIGITS := (let ⟨t, h⟩ := He.int_ok X0 G (c.fact 24 (f := .int "MOST_DIGITS" 2) rfl); ⟨_, h, t, rfl⟩),
    d__wall := { a := He.fAd K ("_wall", none), fd := fd0, F := F0, b := F0.binds fun _ _ _ _ _ _ us hl => match us, hl with | [_], _ => rfl, mg := He.glo_ok X0 G (c.fact 25 (f := .glo "_wall") rfl) },
    d_is_number := { a := He.fAd K ("is_number", none), fd := fd1, F := F1, b := F1.binds fun _ _ _ _ _ _ us hl => match us, hl with | [_, _, _], _ => rfl, mg := He.glo_ok X0 G (c.fact 26 (f := .glo "is_number") rfl) },
    d_is_list := { a := He.fAd K ("is_list", none), fd := fd2, F := F2, b := F2.binds fun _ _ _ _ _ _ us hl => match us, hl with | [_, _, _], _ => rfl, mg := He.glo_ok X0 G (c.fact 27 (f := .glo "is_list") rfl) },
    d_is_name := { a := He.fAd K ("is_name", none), fd := fd3, F := F3, b := F3.binds fun _ _ _ _ _ _ us hl => match us, hl with | [_], _ => rfl, mg := He.glo_ok X0 G (c.fact 28 (f := .glo "is_name") rfl) },
    d_is_tag := { a := He.fAd K ("is_tag", none), fd := fd4, F := F4, b := F4.binds fun _ _ _ _ _ _ us hl => match us, hl with | [_, _], _ => rfl, mg := He.glo_ok X0 G (c.fact 29 (f := .glo "is_tag") rfl) },
    d_is_subject := { a := He.fAd K ("is_subject", none), fd := fd5, F := F5, b := F5.binds fun _ _ _ _ _ _ us hl => match us, hl with | [_, _], _ => rfl, mg := He.glo_ok X0 G (c.fact 30 (f := .glo "is_subject") rfl) },
    d_is_standing := { a := He.fAd K ("is_standing", none), fd := fd6, F := F6, b := F6.binds fun _ _ _ _ _ _ us hl => match us, hl with | [_, _, _], _ => rfl, mg := He.glo_ok X0 G (c.fact 31 (f := .glo "is_standing") rfl) },
    d_check_tags := { a := He.fAd K ("check_tags", none), fd := fd7, F := F7, b := F7.binds fun _ _ _ _ _ _ us hl => match us, hl with | [_], _ => rfl, mg := He.glo_ok X0 G (c.fact 32 (f := .glo "check_tags") rfl) },
    d_check_word := { a := He.fAd K ("check_word", none), fd := fd8, F := F8, b := F8.binds fun _ _ _ _ _ _ us hl => match us, hl with | [_, _, _], _ => rfl, mg := He.glo_ok X0 G (c.fact 33 (f := .glo "check_word") rfl) },
    d_check_standings := { a := He.fAd K ("check_standings", none), fd := fd9, F := F9, b := F9.binds fun _ _ _ _ _ _ us hl => match us, hl with | [_, _], _ => rfl, mg := He.glo_ok X0 G (c.fact 34 (f := .glo "check_standings") rfl) },
    d_no_ways := { a := He.fAd K ("no_ways", none), fd := fd10, F := F10, b := F10.binds fun _ _ _ _ _ _ us hl => match us, hl with | [_], _ => rfl, mg := He.glo_ok X0 G (c.fact 35 (f := .glo "no_ways") rfl) },
    d_walked := { a := He.fAd K ("walked", none), fd := fd11, F := F11, b := F11.binds fun _ _ _ _ _ _ us hl => match us, hl with | [_, _, _], _ => rfl, mg := He.glo_ok X0 G (c.fact 36 (f := .glo "walked") rfl) },
    d_made := { a := He.fAd K ("made", none), fd := fd12, F := F12, b := F12.binds fun _ _ _ _ _ _ us hl => match us, hl with | [_, _, _], _ => rfl, mg := He.glo_ok X0 G (c.fact 37 (f := .glo "made") rfl) },
    d_is_settled_at := { a := He.fAd K ("is_settled_at", none), fd := fd13, F := F13, b := F13.binds fun _ _ _ _ _ _ us hl => match us, hl with | [_], _ => rfl, mg := He.glo_ok X0 G (c.fact 38 (f := .glo "is_settled_at") rfl) },
    d_is_made_at := { a := He.fAd K ("is_made_at", none), fd := fd14, F := F14, b := F14.binds fun _ _ _ _ _ _ us hl => match us, hl with | [_, _, _], _ => rfl, mg := He.glo_ok X0 G (c.fact 39 (f := .glo "is_made_at") rfl) },
    d_copied := { a := He.fAd K ("copied", none), fd := fd15, F := F15, b := F15.binds fun _ _ _ _ _ _ us hl => match us, hl with | [_], _ => rfl, mg := He.glo_ok X0 G (c.fact 40 (f := .glo "copied") rfl) },
    d_without_needless_ways := { a := He.fAd K ("without_needless_ways", none), fd := fd16, F := F16, b := F16.binds fun _ _ _ _ _ _ us hl => match us, hl with | [_, _], _ => rfl, mg := He.glo_ok X0 G (c.fact 41 (f := .glo "without_needless_ways") rfl) },
    d_numbered := { a := He.fAd K ("numbered", none), fd := fd17, F := F17, b := F17.binds fun _ _ _ _ _ _ us hl => match us, hl with | [_], _ => rfl, mg := He.glo_ok X0 G (c.fact 42 (f := .glo "numbered") rfl) },
    d_parted := { a := He.fAd K ("parted", none), fd := fd18, F := F18, b := F18.binds fun _ _ _ _ _ _ us hl => match us, hl with | [_, _], _ => rfl, mg := He.glo_ok X0 G (c.fact 43 (f := .glo "parted") rfl) },
    d_alike_classes := { a := He.fAd K ("alike_classes", none), fd := fd19, F := F19, b := F19.binds fun _ _ _ _ _ _ us hl => match us, hl with | [_], _ => rfl, mg := He.glo_ok X0 G (c.fact 44 (f := .glo "alike_classes") rfl) },
    d_in_order_met := { a := He.fAd K ("in_order_met", none), fd := fd20, F := F20, b := F20.binds fun _ _ _ _ _ _ us hl => match us, hl with | [_, _], _ => rfl, mg := He.glo_ok X0 G (c.fact 45 (f := .glo "in_order_met") rfl) },
    d_least_form := { a := He.fAd K ("least_form", none), fd := fd21, F := F21, b := F21.binds fun _ _ _ _ _ _ us hl => match us, hl with | [_, _], _ => rfl, mg := He.glo_ok X0 G (c.fact 46 (f := .glo "least_form") rfl) },
    d_written := { a := He.fAd K ("written", none), fd := fd22, F := F22, b := F22.binds fun _ _ _ _ _ _ us hl => match us, hl with | [_], _ => rfl, mg := He.glo_ok X0 G (c.fact 47 (f := .glo "written") rfl) },
    d_read_word := { a := He.fAd K ("read_word", none), fd := fd23, F := F23, b := F23.binds fun _ _ _ _ _ _ us hl => match us, hl with | [_, _, _], _ => rfl, mg := He.glo_ok X0 G (c.fact 48 (f := .glo "read_word") rfl) },
    d_is_numeral := { a := He.fAd K ("is_numeral", none), fd := fd24, F := F24, b := F24.binds fun _ _ _ _ _ _ us hl => match us, hl with | [_], _ => rfl, mg := He.glo_ok X0 G (c.fact 49 (f := .glo "is_numeral") rfl) },
    d_read_way := { a := He.fAd K ("read_way", none), fd := fd25, F := F25, b := F25.binds fun _ _ _ _ _ _ us hl => match us, hl with | [_, _], _ => rfl, mg := He.glo_ok X0 G (c.fact 50 (f := .glo "read_way") rfl) },
    d_read_ways := { a := He.fAd K ("read_ways", none), fd := fd26, F := F26, b := F26.binds fun _ _ _ _ _ _ us hl => match us, hl with | [_, _], _ => rfl, mg := He.glo_ok X0 G (c.fact 51 (f := .glo "read_ways") rfl) },
    d_read_line := { a := He.fAd K ("read_line", none), fd := fd27, F := F27, b := F27.binds fun _ _ _ _ _ _ us hl => match us, hl with | [_, _], _ => rfl, mg := He.glo_ok X0 G (c.fact 52 (f := .glo "read_line") rfl) },
    d_ways_among := { a := He.fAd K ("ways_among", none), fd := fd28, F := F28, b := F28.binds fun _ _ _ _ _ _ us hl => match us, hl with | [_, _, _], _ => rfl, mg := He.glo_ok X0 G (c.fact 53 (f := .glo "ways_among") rfl) },
    d_eater_text := { a := He.fAd K ("eater_text", none), fd := fd29, F := F29, b := F29.binds fun _ _ _ _ _ _ us hl => match us, hl with | [_], _ => rfl, mg := He.glo_ok X0 G (c.fact 54 (f := .glo "eater_text") rfl) },
    d_read_eater := { a := He.fAd K ("read_eater", none), fd := fd30, F := F30, b := F30.binds fun _ _ _ _ _ _ us hl => match us, hl with | [_, _], _ => rfl, mg := He.glo_ok X0 G (c.fact 55 (f := .glo "read_eater") rfl) },
    d__law_mixed := { a := He.fAd K ("_law_mixed", none), fd := fd31, F := F31, b := F31.binds fun _ _ _ _ _ _ us hl => match us, hl with | [_, _], _ => rfl, mg := He.glo_ok X0 G (c.fact 56 (f := .glo "_law_mixed") rfl) },
    d__law_pile := { a := He.fAd K ("_law_pile", none), fd := fd32, F := F32, b := F32.binds fun _ _ _ _ _ _ us hl => match us, hl with | [_, _], _ => rfl, mg := He.glo_ok X0 G (c.fact 57 (f := .glo "_law_pile") rfl) },
    d__law_take := { a := He.fAd K ("_law_take", none), fd := fd33, F := F33, b := F33.binds fun _ _ _ _ _ _ us hl => match us, hl with | [_, _], _ => rfl, mg := He.glo_ok X0 G (c.fact 58 (f := .glo "_law_take") rfl) },
    d__law_order := { a := He.fAd K ("_law_order", none), fd := fd34, F := F34, b := F34.binds fun _ _ _ _ _ _ us hl => match us, hl with | [_, _], _ => rfl, mg := He.glo_ok X0 G (c.fact 59 (f := .glo "_law_order") rfl) },
    d__law_tags := { a := He.fAd K ("_law_tags", none), fd := fd35, F := F35, b := F35.binds fun _ _ _ _ _ _ us hl => match us, hl with | [_, _], _ => rfl, mg := He.glo_ok X0 G (c.fact 60 (f := .glo "_law_tags") rfl) },
    d__law_word := { a := He.fAd K ("_law_word", none), fd := fd36, F := F36, b := F36.binds fun _ _ _ _ _ _ us hl => match us, hl with | [_, _, _], _ => rfl, mg := He.glo_ok X0 G (c.fact 61 (f := .glo "_law_word") rfl) },
    d__law_standings := { a := He.fAd K ("_law_standings", none), fd := fd37, F := F37, b := F37.binds fun _ _ _ _ _ _ us hl => match us, hl with | [_, _, _, _], _ => rfl, mg := He.glo_ok X0 G (c.fact 62 (f := .glo "_law_standings") rfl) },
    d__law_eaten := { a := He.fAd K ("_law_eaten", none), fd := fd38, F := F38, b := F38.binds fun _ _ _ _ _ _ us hl => match us, hl with | [_, _, _], _ => rfl, mg := He.glo_ok X0 G (c.fact 63 (f := .glo "_law_eaten") rfl) },
    d__law_row_done := { a := He.fAd K ("_law_row_done", none), fd := fd39, F := F39, b := F39.binds fun _ _ _ _ _ _ us hl => match us, hl with | [_, _, _, _], _ => rfl, mg := He.glo_ok X0 G (c.fact 64 (f := .glo "_law_row_done") rfl) },
    d__law_written := { a := He.fAd K ("_law_written", none), fd := fd40, F := F40, b := F40.binds fun _ _ _ _ _ _ us hl => match us, hl with | [_, _], _ => rfl, mg := He.glo_ok X0 G (c.fact 65 (f := .glo "_law_written") rfl) },
    d__law_number := { a := He.fAd K ("_law_number", none), fd := fd41, F := F41, b := F41.binds fun _ _ _ _ _ _ us hl => match us, hl with | [_], _ => rfl, mg := He.glo_ok X0 G (c.fact 66 (f := .glo "_law_number") rfl) },
    d__law_word_of := { a := He.fAd K ("_law_word_of", none), fd := fd42, F := F42, b := F42.binds fun _ _ _ _ _ _ us hl => match us, hl with | [_, _], _ => rfl, mg := He.glo_ok X0 G (c.fact 67 (f := .glo "_law_word_of") rfl) },
    d__law_line_of := { a := He.fAd K ("_law_line_of", none), fd := fd43, F := F43, b := F43.binds fun _ _ _ _ _ _ us hl => match us, hl with | [_, _], _ => rfl, mg := He.glo_ok X0 G (c.fact 68 (f := .glo "_law_line_of") rfl) },
    d__law_due := { a := He.fAd K ("_law_due", none), fd := fd44, F := F44, b := F44.binds fun _ _ _ _ _ _ us hl => match us, hl with | [_, _], _ => rfl, mg := He.glo_ok X0 G (c.fact 69 (f := .glo "_law_due") rfl) },
    d__law_told := { a := He.fAd K ("_law_told", none), fd := fd45, F := F45, b := F45.binds fun _ _ _ _ _ _ us hl => match us, hl with | [_, _], _ => rfl, mg := He.glo_ok X0 G (c.fact 70 (f := .glo "_law_told") rfl) },
    d__law_bent := { a := He.fAd K ("_law_bent", none), fd := fd46, F := F46, b := F46.binds fun _ _ _ _ _ _ us hl => match us, hl with | [_, _, _], _ => rfl, mg := He.glo_ok X0 G (c.fact 71 (f := .glo "_law_bent") rfl) },
    d__law_great_right := { a := He.fAd K ("_law_great_right", none), fd := fd47, F := F47, b := F47.binds fun _ _ _ _ _ _ us hl => match us, hl with | [_, _], _ => rfl, mg := He.glo_ok X0 G (c.fact 72 (f := .glo "_law_great_right") rfl) },
    d__law_tags_right := { a := He.fAd K ("_law_tags_right", none), fd := fd48, F := F48, b := F48.binds fun _ _ _ _ _ _ us hl => match us, hl with | [_, _, _], _ => rfl, mg := He.glo_ok X0 G (c.fact 73 (f := .glo "_law_tags_right") rfl) },
    d_law := { a := He.fAd K ("law", none), fd := fd49, F := F49, b := F49.binds fun _ _ _ _ _ _ us hl => match us, hl with | [_], _ => rfl, mg := He.glo_ok X0 G (c.fact 74 (f := .glo "law") rfl) },
    lam_c := He.codeOf K ("without_needless_ways", none),
    lam_P := He.tabOf K (He.codeOf K ("without_needless_ways", none)),
    lam_F := G16,
    e_TagError := He.ga K "TagError",
    me_TagError := He.glo_ok X0 G (c.fact 75 (f := .glo "TagError") rfl),
    e_InvalidTags := He.ga K "InvalidTags",
    me_InvalidTags := He.glo_ok X0 G (c.fact 76 (f := .glo "InvalidTags") rfl),
    d_InvalidTags___init__ := { a := He.fAd K ("InvalidTags", some "__init__"), fd := fd50, F := F50, b := F50.binds fun _ _ _ _ _ _ us hl => match us, hl with | [_, _], _ => rfl },
    xt_InvalidTags := QX.excTB_ok b_x_InvalidTags,
    e_InvalidSubject := He.ga K "InvalidSubject",
    me_InvalidSubject := He.glo_ok X0 G (c.fact 77 (f := .glo "InvalidSubject") rfl),
    d_InvalidSubject___init__ := { a := He.fAd K ("InvalidSubject", some "__init__"), fd := fd51, F := F51, b := F51.binds fun _ _ _ _ _ _ us hl => match us, hl with | [_, _], _ => rfl },
    xt_InvalidSubject := QX.excTB_ok b_x_InvalidSubject,
    e_InvalidEater := He.ga K "InvalidEater",
    me_InvalidEater := He.glo_ok X0 G (c.fact 78 (f := .glo "InvalidEater") rfl),
    d_InvalidEater___init__ := { a := He.fAd K ("InvalidEater", some "__init__"), fd := fd52, F := F52, b := F52.binds fun _ _ _ _ _ _ us hl => match us, hl with | [_, _], _ => rfl },
    xt_InvalidEater := QX.excTB_ok b_x_InvalidEater,
    e_InvalidText := He.ga K "InvalidText",
    me_InvalidText := He.glo_ok X0 G (c.fact 79 (f := .glo "InvalidText") rfl),
    d_InvalidText___init__ := { a := He.fAd K ("InvalidText", some "__init__"), fd := fd53, F := F53, b := F53.binds fun _ _ _ _ _ _ us hl => match us, hl with | [_, _], _ => rfl },
    xt_InvalidText := QX.excTB_ok b_x_InvalidText,
    ex_InvalidTags := of_decide_eq_true b_e_InvalidTags,
    kv_InvalidTags := of_decide_eq_true b_v_InvalidTags,
    ki_InvalidTags_TagError := of_decide_eq_true b_i_InvalidTags_TagError,
    ki_InvalidTags_InvalidTags := of_decide_eq_true b_i_InvalidTags_InvalidTags,
    ki_InvalidTags_InvalidSubject := of_decide_eq_true b_i_InvalidTags_InvalidSubject,
    ki_InvalidTags_InvalidEater := of_decide_eq_true b_i_InvalidTags_InvalidEater,
    ki_InvalidTags_InvalidText := of_decide_eq_true b_i_InvalidTags_InvalidText,
    ex_InvalidSubject := of_decide_eq_true b_e_InvalidSubject,
    kv_InvalidSubject := of_decide_eq_true b_v_InvalidSubject,
    ki_InvalidSubject_TagError := of_decide_eq_true b_i_InvalidSubject_TagError,
    ki_InvalidSubject_InvalidTags := of_decide_eq_true b_i_InvalidSubject_InvalidTags,
    ki_InvalidSubject_InvalidSubject := of_decide_eq_true b_i_InvalidSubject_InvalidSubject,
    ki_InvalidSubject_InvalidEater := of_decide_eq_true b_i_InvalidSubject_InvalidEater,
    ki_InvalidSubject_InvalidText := of_decide_eq_true b_i_InvalidSubject_InvalidText,
    ex_InvalidEater := of_decide_eq_true b_e_InvalidEater,
    kv_InvalidEater := of_decide_eq_true b_v_InvalidEater,
    ki_InvalidEater_TagError := of_decide_eq_true b_i_InvalidEater_TagError,
    ki_InvalidEater_InvalidTags := of_decide_eq_true b_i_InvalidEater_InvalidTags,
    ki_InvalidEater_InvalidSubject := of_decide_eq_true b_i_InvalidEater_InvalidSubject,
    ki_InvalidEater_InvalidEater := of_decide_eq_true b_i_InvalidEater_InvalidEater,
    ki_InvalidEater_InvalidText := of_decide_eq_true b_i_InvalidEater_InvalidText,
    ex_InvalidText := of_decide_eq_true b_e_InvalidText,
    kv_InvalidText := of_decide_eq_true b_v_InvalidText,
    ki_InvalidText_TagError := of_decide_eq_true b_i_InvalidText_TagError,
    ki_InvalidText_InvalidTags := of_decide_eq_true b_i_InvalidText_InvalidTags,
    ki_InvalidText_InvalidSubject := of_decide_eq_true b_i_InvalidText_InvalidSubject,
    ki_InvalidText_InvalidEater := of_decide_eq_true b_i_InvalidText_InvalidEater,
    ki_InvalidText_InvalidText := of_decide_eq_true b_i_InvalidText_InvalidText,
    c_Eater := He.ga K "Eater",
    m_Eater := He.glo_ok X0 G (c.fact 80 (f := .glo "Eater") rfl),
    cl_Eater := He.cls_ok (c.fact 81 (f := .cls "Eater") rfl),
    oc_Eater := QE.ownB_ok b_own_Eater,
    d_Eater___init__ := { a := He.fAd K ("Eater", some "__init__"), fd := fd54, F := F54, b := F54.binds fun _ _ _ _ _ _ us hl => match us, hl with | [_, _, _], _ => rfl },
    d_Eater___len__ := { a := He.fAd K ("Eater", some "__len__"), fd := fd55, F := F55, b := F55.binds fun _ _ _ _ _ _ us hl => match us, hl with | [_], _ => rfl },
    h_Eater___len__ := He.meth_ok (c.fact 82 (f := .meth "Eater" "__len__") rfl),
    d_Eater___eq__ := { a := He.fAd K ("Eater", some "__eq__"), fd := fd56, F := F56, b := F56.binds fun _ _ _ _ _ _ us hl => match us, hl with | [_, _], _ => rfl },
    h_Eater___eq__ := He.meth_ok (c.fact 83 (f := .meth "Eater" "__eq__") rfl),
    d_Eater___contains__ := { a := He.fAd K ("Eater", some "__contains__"), fd := fd57, F := F57, b := F57.binds fun _ _ _ _ _ _ us hl => match us, hl with | [_, _], _ => rfl },
    h_Eater___contains__ := He.meth_ok (c.fact 84 (f := .meth "Eater" "__contains__") rfl),
    d_Eater_tags := { a := He.fAd K ("Eater", some "tags"), fd := fd58, F := F58, b := F58.binds fun _ _ _ _ _ _ us hl => match us, hl with | [_], _ => rfl },
    h_Eater_tags := He.meth_ok (c.fact 85 (f := .meth "Eater" "tags") rfl),
    d_Eater_standings := { a := He.fAd K ("Eater", some "standings"), fd := fd59, F := F59, b := F59.binds fun _ _ _ _ _ _ us hl => match us, hl with | [_], _ => rfl },
    h_Eater_standings := He.meth_ok (c.fact 86 (f := .meth "Eater" "standings") rfl),
    d_Eater_on := { a := He.fAd K ("Eater", some "on"), fd := fd60, F := F60, b := F60.binds fun _ _ _ _ _ _ us hl => match us, hl with | [_, _], _ => rfl },
    h_Eater_on := He.meth_ok (c.fact 87 (f := .meth "Eater" "on") rfl),
    d_Eater_settled := { a := He.fAd K ("Eater", some "settled"), fd := fd61, F := F61, b := F61.binds fun _ _ _ _ _ _ us hl => match us, hl with | [_, _], _ => rfl },
    h_Eater_settled := He.meth_ok (c.fact 88 (f := .meth "Eater" "settled") rfl),
    d_Eater_then := { a := He.fAd K ("Eater", some "then"), fd := fd62, F := F62, b := F62.binds fun _ _ _ _ _ _ us hl => match us, hl with | [_, _], _ => rfl },
    h_Eater_then := He.meth_ok (c.fact 89 (f := .meth "Eater" "then") rfl),
    d_Eater_power := { a := He.fAd K ("Eater", some "power"), fd := fd63, F := F63, b := F63.binds fun _ _ _ _ _ _ us hl => match us, hl with | [_, _], _ => rfl },
    h_Eater_power := He.meth_ok (c.fact 90 (f := .meth "Eater" "power") rfl),
    mk_Eater := He.mkr_ok (c.fact 91 (f := .mkr "Eater") rfl),
    na_Eater__standings := He.noat_ok (c.fact 92 (f := .noat "Eater" "_standings") rfl),
    na_Eater__tags := He.noat_ok (c.fact 93 (f := .noat "Eater" "_tags") rfl) }, rfl, rfl, rfl⟩
end Law
end

section
set_option Elab.async false
set_option linter.all false
set_option maxRecDepth 100000
set_option maxHeartbeats 0
namespace Law
open PySem PySem.Spec PyProof.Rows L2 LamX QB QM
abbrev R : PySem.W.OpenRow := PySem.W.OpenLaw.row PySem.Challenge.rw_subjecttags_k61_eaters_as_text
def tfs : List He.Defn := [("without_needless_ways", none)]
abbrev hk : PySem.W.Hook := He.hookX 5 fas dds [] tfs exB
def ob (s : PySem.W.SharedT) : He.AlX := He.obsX 5 fas dds [] tfs exB (HandSHeadRun.getT s)
theorem ob_eq (s : PySem.W.SharedT) : ob s = hk.obs s.abs := He.obsX_eq (HandSHeadRun.getT_eq s)
def names : List Str := (["_wall", "TagError", "InvalidTags", "InvalidSubject", "InvalidEater", "InvalidText", "LETTERS", "MOST_LETTERS", "MOST_TAGS", "MOST_STANDINGS", "LONGEST_WORD", "LONGEST_SUBJECT", "is_number", "is_list", "is_name", "is_tag", "is_subject", "is_standing", "check_tags", "check_word"] : List Str) ++ (["check_standings", "no_ways", "walked", "made", "is_settled_at", "is_made_at", "copied", "without_needless_ways", "numbered", "parted", "alike_classes", "in_order_met", "least_form", "Eater", "NO_TAGS", "DIGITS", "MOST_DIGITS", "written", "read_word", "is_numeral"] : List Str) ++ (["read_way", "read_ways", "read_line", "ways_among", "eater_text", "read_eater", "_law_mixed", "_law_pile", "_law_take", "_law_order", "_law_tags", "_law_word", "_law_standings", "_law_eaten", "_law_row_done", "_law_written", "_law_number", "_law_word_of", "_law_line_of", "_law_due"] : List Str) ++ (["_law_told", "_law_bent", "_law_great_right", "_law_tags_right"] : List Str)
theorem run (w : World) : HandSHeadRun.RunEq R (PySem.W.view R.prog [70]) hk ob 4000 names w := by
  intro os
  kernel_rfl
end Law
end

section
set_option Elab.async false
set_option linter.all false
set_option maxRecDepth 100000
set_option maxHeartbeats 0
namespace Law
open PySem PySem.W PySem.Calls PyProof.Rows
theorem hd1 : opening R.prog = plainProg R.prog.main.scope.names := by kernel_rfl
theorem hd2 (s : PySem.Shared) : fenceModules? R.prog s = some s := by kernel_rfl
theorem hd3 : defOf (view R.prog [70]) R.name = some (HandSHeadRun.topDef R.prog 70, []) := by kernel_rfl
theorem hd4 : R.prog.theDef R.name = some ((HandSHeadRun.topDef R.prog 70).params, (HandSHeadRun.topDef R.prog 70).body, (HandSHeadRun.topDef R.prog 70).scope) := by kernel_rfl
theorem hd5 : kwWritten? (HandSHeadRun.topDef R.prog 70).params.kwonlyargs (HandSHeadRun.topDef R.prog 70).params.kw_defaults = some [] := by kernel_rfl
theorem hd6 : (!R.writes || R.records.isEmpty) = true := by rfl
theorem hd7 : R.wellSaid = true := by decide +kernel
theorem hd8 : (chainsOk (view R.prog [70]) && opensWell R.prog && (frees R.toRowW && R.within.isEmpty)) = true := by decide +kernel
theorem hd9 : R.prog.bare := ⟨rfl, rfl, rfl, rfl, rfl, by decide +kernel⟩
theorem hd10 : (HandSHeadRun.topDef R.prog 70).name = ("law" : PySem.Str) := by kernel_rfl
theorem hd11 : (HandSHeadRun.topDef R.prog 70).params.defaults = [] := by kernel_rfl
end Law
namespace Law
open PySem PySem.W PySem.Calls PyProof.Rows
theorem hd12 : importsNone (view R.prog [70]) = true := by decide +kernel
end Law
end

section
set_option Elab.async false
set_option linter.all false
set_option maxRecDepth 100000
set_option maxHeartbeats 0
namespace Law
open PySem PySem.Spec PyProof.Rows L2 LamX QB QM
theorem law_at (w : World) (mg : Str → Option Value) (fa : Addr) (h : Heap) (Y : hk.says w h) (G : h.Ns mainGlobals mg) (hmg : mg ("law" : Str) = some (.ref fa)) :
    ∃ K : PySem.W.Frag, K.In h ∧ QT.LawG PySem.Challenge.rw_subjecttags_k61_eaters_as_text w K CX0 63 "script" mg fa h := by
  obtain ⟨K, KX, c⟩ := Y
  obtain ⟨X, e1, e2, e3⟩ := tx_mk KX G c.t.d c.more
  have e4 := hmg.symm.trans X.d_law.mg
  have e5 : fa = X.d_law.a := by
    injection e4 with e4
    injection e4
  subst e5
  have hm : (((("without_needless_ways" : Str), (none : Option Str)) : He.Defn)) ∈ tfs := List.mem_singleton.mpr rfl
  have h1 := c.hd _ hm
  have h2 := c.out _ hm
  have h3 := c.empty _ hm
  have c1 : (He.cT K (("without_needless_ways" : Str), (none : Option Str))) = (X.lam_c, X.lam_P) := by rw [e1, e2]; rfl
  rw [c1] at h1 h2 h3
  have hb : ∀ (s : Shared) (u : Value), BindsTo s X.d_law.fd ⟨[u], []⟩ [("script", u)] := by
    obtain ⟨oc, od, kV, doc, pm, an, cdv, ct, osl, hf, _, _⟩ := X.d_law.F.ex
    intro s u
    rw [hf]
    exact .of_eq rfl
  refine ⟨K, KX, X.d_law.fd, [(X.lam_c, X.lam_P)], spLaw K (Tof X), ?_, ?_, ?_, hb, ?_, ?_⟩
  · intro p hp
    rw [List.mem_singleton.mp hp]
    exact h3
  · intro p hp
    rw [List.mem_singleton.mp hp]
    exact h2
  · intro p hp
    rw [List.mem_singleton.mp hp]
    exact PySem.W.codeHd_of_K KX h1
  · intro H a ns hl hT hS
    refine ⟨a, ns, rfl, hS, fun q hq => ?_, fun _ => rfl⟩
    rw [List.mem_singleton.mp hq]
    exact ⟨#[], hT _ (List.mem_singleton.mpr rfl), by simp [TriplesOk], fun pos cv h => by cases h⟩
  · intro base _ _ hB TB
    exact ok_law X (TB _ (List.mem_singleton.mpr rfl)) hB ⟨rfl, by decide, by decide⟩
end Law
open PySem PySem.W PySem.Calls PyProof.Rows
theorem k61_end : PySem.Challenge.rw_subjecttags_k61_eaters_as_text.Holds := by
  w_on; o_law
  refine HandSHeadRun.head_any (r := Law.R) (q := view Law.R.prog [70]) (H := Law.hk) (ob := Law.ob) (M := 4000) (loose := Law.names) (d := HandSHeadRun.topDef Law.R.prog 70) (kwd := []) Law.ob_eq
    Law.hd1 Law.hd2 Law.run Law.hd3 Law.hd4 Law.hd5 Law.hd6 Law.hd7 Law.hd8 Law.hd9 ?hw ?hc
  case hw => w_witness2
  case hc =>
    refine QT.walk_ofG (l := PySem.Challenge.rw_subjecttags_k61_eaters_as_text) (n := 63) (x := "script") (CX := fun _ => L2.CX0) rfl (by decide) Law.hd11 Law.hd12 ?F (fun _ _ _ _ _ z => z)
    intro w mg fa h Y G hmg0
    rw [Law.hd10] at hmg0
    exact Law.law_at w mg fa h Y G hmg0
end

theorem PySem.Challenge.cw_subjecttags_k61_eaters_as_text_holds : PySem.Challenge.rw_subjecttags_k61_eaters_as_text.Holds := by
  exact k61_end
