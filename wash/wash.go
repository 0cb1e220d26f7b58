// Package wash writes what a policy leaves of rules.
package wash

import (
	"rinse/policy"
	"rinse/rules"
	"rinse/selectors"
	"rinse/texts"
	"rinse/values"
	"rinse/write"
)

// Rules writes what comes of rules, one behind the other.
func Rules(p policy.Policy, list []rules.Rule) string {
	var parts []string
	for _, rule := range list {
		if rule.At != "" {
			parts = append(parts, atRule(p, rule))
		} else {
			parts = append(parts, styleRule(p, rule))
		}
	}
	return texts.Join(parts...)
}

func atRule(p policy.Policy, rule rules.Rule) string {
	name := texts.Small(rule.At)
	if !rule.HasBody || !p.AtRuleMayBe(name) || !p.IsHarmless(rule.Head) {
		return ""
	}
	return braced(atHead(name, values.Trim(rule.Head)), Rules(p, rules.ReadBody(rule.Body)))
}

func atHead(name string, head []values.Value) string {
	whole := texts.Join("@", write.Name(name))
	if len(head) == 0 {
		return whole
	}
	return texts.Join(whole, " ", write.Values(head))
}

func styleRule(p policy.Policy, rule rules.Rule) string {
	list, ok := selectors.Read(rule.Head)
	if !ok {
		return ""
	}
	return braced(styleHead(p.Root(), list), declarations(p, rule.Body))
}

// styleHead writes selectors, each below the root's class, if there is a root.
func styleHead(root string, list selectors.List) string {
	ahead := ""
	if root != "" {
		ahead = texts.Join(".", write.Name(root), " ")
	}
	var parts []string
	for _, one := range list {
		parts = append(parts, texts.Join(ahead, one.Written()))
	}
	return texts.JoinBy(",", parts...)
}

func declarations(p policy.Policy, body []values.Value) string {
	var parts []string
	for _, one := range rules.Declarations(body) {
		if len(one.Value) > 0 && p.PropertyMayBe(one.Property) && p.IsHarmless(one.Value) {
			parts = append(parts, declaration(one))
		}
	}
	return texts.JoinBy(";", parts...)
}

func declaration(one rules.Declaration) string {
	important := ""
	if one.Important {
		important = "!important"
	}
	return texts.Join(write.Name(one.Property), ":", write.Values(one.Value), important)
}

// braced writes a rule: nothing, if there is nothing in its body.
func braced(head, body string) string {
	if body == "" {
		return ""
	}
	return texts.Join(head, "{", body, "}")
}
